/-
  Layer 5: contract of the document's Float.
-/
import Derived.Test.YtakbhbhikknhkaaJ
import Derived.Test.YtakbhbhikknhkaaH
namespace Go.Proofs.Ytakbhbhikknhkaa
open Go.ChangeShapes Go.WideShapes Go.ChangeAt Go.RowKit

/-- is there a cut of a text of which something holds? -/
def anyCut (f : List UInt8 → List UInt8 → Bool) (l : List UInt8) : Bool := (List.range (l.length + 1)).any fun i => f (l.take i) (l.drop i)
theorem anyCut_yes {f : List UInt8 → List UInt8 → Bool} {l : List UInt8} {k : Nat} (hk : k ≤ l.length) (h : f (l.take k) (l.drop k) = true) : anyCut f l = true := by
  unfold anyCut
  rw [List.any_eq_true]
  exact ⟨k, List.mem_range.2 (by omega), h⟩
theorem anyCut_no {f : List UInt8 → List UInt8 → Bool} {l : List UInt8} (h : ∀ j, j < l.length + 1 → f (l.take j) (l.drop j) = false) : anyCut f l = false := by
  unfold anyCut
  rw [List.any_eq_false]
  intro k hk
  rw [h k (List.mem_range.1 hk)]; decide
def hexCut (a b : List UInt8) : Bool := power 112 80 b && (points 16 true a || under 16 a)
def decCut (a b : List UInt8) : Bool := power 101 69 b && (points 10 false a || row 10 a)
/-- is a text a broken number? -/
def broken? (l : List UInt8) : Bool := if head? 120 88 l then anyCut hexCut (l.drop 2) else points 10 false l || anyCut decCut l

theorem power_p (s : ByteArray) (hs : s.size ≤ 1048576) (w : World) :
    Calls Try.prog 31 #[.string s, .int .u8 112, .int .u8 80] w fun e w' => e = .returned (.bool (power 112 80 s.data.toList)) ∧ Below w.heap.size w w' := power_any s hs 112 80 w
theorem power_e (s : ByteArray) (hs : s.size ≤ 1048576) (w : World) :
    Calls Try.prog 31 #[.string s, .int .u8 101, .int .u8 69] w fun e w' => e = .returned (.bool (power 101 69 s.data.toList)) ∧ Below w.heap.size w w' := power_any s hs 101 69 w
theorem extract_front (s : ByteArray) (k : Nat) : (s.extract 0 k).data.toList = s.data.toList.take k := by rw [extract_take]; simp

set_option maxHeartbeats 4000000 in
theorem float_any (s : ByteArray) (hs : s.size ≤ 1048576) (w : World) :
    Calls Try.prog 19 #[.string s] w fun e w' => e = .returned (.bool (broken? s.data.toList)) ∧ Below w.heap.size w w' := by
  have hlen : s.data.toList.length = s.size := by simp
  have hA : Below w.heap.size w w := Below.refl _ _
  cases hx : head? 120 88 s.data.toList with
  | true =>
    have d2 : (2 : Int) ≤ s.size := by
      by_cases h2 : s.data.toList.length < 2
      · rw [head_short _ _ _ h2] at hx; cases hx
      · omega
    have hr : broken? s.data.toList = anyCut hexCut (s.extract 2 s.size).data.toList := by unfold broken?; rw [hx, extract_drop]; rfl
    rw [hr]
    have hz : (s.extract 2 s.size).size ≤ 1048576 := by simp; omega
    clear hr hlen
    obtain ⟨t, ht⟩ : ∃ t, t = s.extract 2 s.size := ⟨_, rfl⟩
    rw [← ht] at hz ⊢
    have HT := Lib.hid ht
    clear ht
    go_enter Try.func19, Try.ntmps19
    go_wp2_with (go_at_call 30; refine (headed_x s hs _).mono ?_; rintro e w1 ⟨he, hw⟩; rw [hw]; rw [hx] at he; subst he; clear hw w1)
    rw [← HT.out]
    clear d2 hx hs HT
    have hlen : t.data.toList.length = t.size := by simp
    go_loopw [4] (fun ii wr => ∃ k : Nat, k ≤ t.size + 1 ∧ ii = .int .i64 k ∧ Below w.heap.size w wr ∧ Hid (∀ j, j < k → hexCut (t.data.toList.take j) (t.data.toList.drop j) = false)) (fun ii _ => t.size + 1 - (intOf ii).toNat)
    case atStart => exact ⟨0, Nat.zero_le _, rfl, hA, Lib.hid fun j h => by omega⟩
    case round =>
      obtain ⟨k, hk, rfl, hB, hP⟩ := hrel
      by_cases hlt : k ≤ t.size
      · have HE1 := Lib.hid (extract_drop t k)
        have HE2 := Lib.hid (extract_front t k)
        have hz1 : (t.extract k t.size).size ≤ 1048576 := by simp; omega
        have hz2 : (t.extract 0 k).size ≤ 1048576 := by simp; omega
        have HL := Lib.hid hlen
        clear hlen
        have key : ∀ v, hexCut (t.data.toList.take k) (t.data.toList.drop k) = v → ∀ j, j < k + 1 → v = false → hexCut (t.data.toList.take j) (t.data.toList.drop j) = false := by
          intro v h j hj hv
          by_cases e : j = k
          · subst e; rw [h, hv]
          · exact hP.out j (by omega)
        have HK := Lib.hid key
        clear key
        cases hp : power 112 80 (t.extract k t.size).data.toList with
        | false =>
          have hc : hexCut (t.data.toList.take k) (t.data.toList.drop k) = false := by unfold hexCut; rw [← HE1.out, hp]; rfl
          have hc := Lib.hid hc
          go_wp2_with (go_at_call 31; refine (power_p _ hz1 _).mono ?_; rintro e w1 ⟨he, hB1⟩; rw [hp] at he; subst he; replace hB := hB.trans (hB1.mono hB.size); clear hB1)
          go_roundw
          case rel => exact ⟨k + 1, by omega, by go_num, hB, Lib.hid fun j hj => HK.out _ hc.out j hj rfl⟩
          case measure => simp [intOf]; omega
        | true =>
          cases hpt : points 16 true (t.extract 0 k).data.toList <;> cases hu : under 16 (t.extract 0 k).data.toList
          all_goals
            (have hcv : hexCut (t.data.toList.take k) (t.data.toList.drop k) = _ := (by unfold hexCut; rw [← HE1.out, ← HE2.out, hp, hpt, hu])
             have hc := Lib.hid hcv
             clear hcv
             go_wp2_with (first
              | (go_at_call 31; refine (power_p _ hz1 _).mono ?_; rintro e w1 ⟨he, hB1⟩; rw [hp] at he; subst he; replace hB := hB.trans (hB1.mono hB.size); clear hB1)
              | (go_at_call 32; refine (pointed_any _ hz2 16 (by decide) true _).mono ?_; rintro e w1 ⟨he, hB1⟩; rw [hpt] at he; subst he; replace hB := hB.trans (hB1.mono hB.size); clear hB1)
              | (go_at_call 29; refine (under_any _ hz2 16 (by decide) _).mono ?_; rintro e w1 ⟨he, hB1⟩; rw [hu] at he; subst he; replace hB := hB.trans (hB1.mono hB.size); clear hB1))
             first
              | (go_ret
                 exact ⟨ret_bool (anyCut_yes (by have := HL.out; omega) hc.out).symm, hB⟩)
              | (go_roundw
                 case rel => exact ⟨k + 1, by omega, by go_num, hB, Lib.hid fun j hj => HK.out _ hc.out j hj rfl⟩
                 case measure => simp [intOf]; omega))
      · have hn : anyCut hexCut t.data.toList = false := anyCut_no fun j hj => hP.out j (by omega)
        have hn := Lib.hid hn
        go_wp2
        go_ret
        exact ⟨by first | rfl | exact ret_bool hn.out.symm, hB⟩
  | false =>
    have hlen' := hlen
    cases hpw : points 10 false s.data.toList with
    | true =>
      have hr : broken? s.data.toList = true := by unfold broken?; rw [hx, hpw]; rfl
      rw [hr]
      clear hr hlen hlen'
      go_enter Try.func19, Try.ntmps19
      go_wp2_with (first
        | (go_at_call 30; refine (headed_x s hs _).mono ?_; rintro e w1 ⟨he, hw⟩; rw [hw]; rw [hx] at he; subst he; clear hw w1)
        | (go_at_call 32; refine (pointed_any s hs 10 (by decide) false _).mono ?_; rintro e w1 ⟨he, hB1⟩; rw [hpw] at he; subst he; replace hA := hA.trans (hB1.mono hA.size); clear hB1))
      go_ret
      exact ⟨ret_bool rfl, hA⟩
    | false =>
    have hr : broken? s.data.toList = anyCut decCut s.data.toList := by unfold broken?; rw [hx, hpw]; rfl
    rw [hr]
    clear hr hlen hlen'
    go_enter Try.func19, Try.ntmps19
    go_wp2_with (first
        | (go_at_call 30; refine (headed_x s hs _).mono ?_; rintro e w1 ⟨he, hw⟩; rw [hw]; rw [hx] at he; subst he; clear hw w1)
        | (go_at_call 32; refine (pointed_any s hs 10 (by decide) false _).mono ?_; rintro e w1 ⟨he, hB1⟩; rw [hpw] at he; subst he; replace hA := hA.trans (hB1.mono hA.size); clear hB1))
    clear hx hpw
    have hlen : s.data.toList.length = s.size := by simp
    go_loopw [5] (fun ii wr => ∃ k : Nat, k ≤ s.size + 1 ∧ ii = .int .i64 k ∧ Below w.heap.size w wr ∧ Hid (∀ j, j < k → decCut (s.data.toList.take j) (s.data.toList.drop j) = false)) (fun ii _ => s.size + 1 - (intOf ii).toNat)
    case atStart => exact ⟨0, Nat.zero_le _, rfl, hA, Lib.hid fun j h => by omega⟩
    case round =>
      obtain ⟨k, hk, rfl, hB, hP⟩ := hrel
      by_cases hlt : k ≤ s.size
      · have HE1 := Lib.hid (extract_drop s k)
        have HE2 := Lib.hid (extract_front s k)
        have hz1 : (s.extract k s.size).size ≤ 1048576 := by simp; omega
        have hz2 : (s.extract 0 k).size ≤ 1048576 := by simp; omega
        have HL := Lib.hid hlen
        clear hlen
        have key : ∀ v, decCut (s.data.toList.take k) (s.data.toList.drop k) = v → ∀ j, j < k + 1 → v = false → decCut (s.data.toList.take j) (s.data.toList.drop j) = false := by
          intro v h j hj hv
          by_cases e : j = k
          · subst e; rw [h, hv]
          · exact hP.out j (by omega)
        have HK := Lib.hid key
        clear key
        cases hp : power 101 69 (s.extract k s.size).data.toList with
        | false =>
          have hc : decCut (s.data.toList.take k) (s.data.toList.drop k) = false := by unfold decCut; rw [← HE1.out, hp]; rfl
          have hc := Lib.hid hc
          go_wp2_with (go_at_call 31; refine (power_e _ hz1 _).mono ?_; rintro e w1 ⟨he, hB1⟩; rw [hp] at he; subst he; replace hB := hB.trans (hB1.mono hB.size); clear hB1)
          go_roundw
          case rel => exact ⟨k + 1, by omega, by go_num, hB, Lib.hid fun j hj => HK.out _ hc.out j hj rfl⟩
          case measure => simp [intOf]; omega
        | true =>
          cases hpt : points 10 false (s.extract 0 k).data.toList <;> cases hu : row 10 (s.extract 0 k).data.toList
          all_goals
            (have hcv : decCut (s.data.toList.take k) (s.data.toList.drop k) = _ := (by unfold decCut; rw [← HE1.out, ← HE2.out, hp, hpt, hu])
             have hc := Lib.hid hcv
             clear hcv
             go_wp2_with (first
              | (go_at_call 31; refine (power_e _ hz1 _).mono ?_; rintro e w1 ⟨he, hB1⟩; rw [hp] at he; subst he; replace hB := hB.trans (hB1.mono hB.size); clear hB1)
              | (go_at_call 32; refine (pointed_any _ hz2 10 (by decide) false _).mono ?_; rintro e w1 ⟨he, hB1⟩; rw [hpt] at he; subst he; replace hB := hB.trans (hB1.mono hB.size); clear hB1)
              | (go_at_call 20; refine (refRow_any _ hz2 10 (by decide) _).mono ?_; rintro e w1 ⟨he, hB1⟩; rw [hu] at he; subst he; replace hB := hB.trans (hB1.mono hB.size); clear hB1))
             first
              | (go_ret
                 exact ⟨ret_bool (anyCut_yes (by have := HL.out; omega) hc.out).symm, hB⟩)
              | (go_roundw
                 case rel => exact ⟨k + 1, by omega, by go_num, hB, Lib.hid fun j hj => HK.out _ hc.out j hj rfl⟩
                 case measure => simp [intOf]; omega))
      · have hn : anyCut decCut s.data.toList = false := anyCut_no fun j hj => hP.out j (by omega)
        have hn := Lib.hid hn
        go_wp2
        go_ret
        exact ⟨by first | rfl | exact ret_bool hn.out.symm, hB⟩
end Go.Proofs.Ytakbhbhikknhkaa
