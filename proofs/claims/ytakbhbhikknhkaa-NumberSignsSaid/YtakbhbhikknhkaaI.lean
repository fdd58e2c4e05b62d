/-
  Layer 5: contract of the document's pointed.
-/
import Derived.Test.YtakbhbhikknhkaaG
import Derived.Laws.Strings
namespace Go.Proofs.Ytakbhbhikknhkaa
open Go.ChangeShapes Go.WideShapes Go.ChangeAt Go.RowKit

/-- a row, a point, a row or none; or a point and a row -/
def points (base : Nat) (hex : Bool) (l : List UInt8) : Bool :=
  match l.dropWhile (fun c => decide (c ≠ 46)) with
  | [] => false
  | _ :: b => ((row base (l.takeWhile fun c => decide (c ≠ 46)) || (hex && under base (l.takeWhile fun c => decide (c ≠ 46)))) && (b.isEmpty || row base b)) || ((l.takeWhile fun c => decide (c ≠ 46)).isEmpty && row base b)
theorem while_at : ∀ (l : List UInt8) (k : Nat), l[k]? = some 46 → (∀ j, j < k → l[j]? ≠ some 46) →
    (l.takeWhile fun c => decide (c ≠ 46)) = l.take k ∧ (l.dropWhile fun c => decide (c ≠ 46)) = 46 :: l.drop (k + 1)
  | c :: t, 0, h, _ => by
    simp at h
    subst h
    simp
  | c :: t, k + 1, h, hn => by
    have hc : c ≠ 46 := fun e => hn 0 (by omega) (by simp [e])
    obtain ⟨h1, h2⟩ := while_at t k (by simpa using h) (fun j hj => by simpa using hn (j + 1) (by omega))
    rw [List.takeWhile_cons_of_pos (by simpa using hc), List.dropWhile_cons_of_pos (by simpa using hc), h1, h2]
    exact ⟨by simp, by simp⟩
theorem while_none : ∀ (l : List UInt8), (∀ j : Nat, l[j]? ≠ some 46) → (l.dropWhile fun c => decide (c ≠ 46)) = []
  | [], _ => rfl
  | c :: t, hn => by
    have hc : c ≠ 46 := fun e => hn 0 (by simp [e])
    rw [List.dropWhile_cons_of_pos (by simpa using hc)]
    exact while_none t fun j => by simpa using hn (j + 1)

theorem list_of (b : ByteArray) : b.toList.isEmpty = b.data.toList.isEmpty := by
  unfold ByteArray.toList
  rw [ByteArray.toList_loop_eq b b.size 0 [] (by omega) (by omega)]; rfl

set_option maxHeartbeats 8000000 in
theorem pointed_any (s : ByteArray) (hs : s.size ≤ 1048576) (base : Nat) (hb : base ≤ 16) (hex : Bool) (w : World) :
    Calls Try.prog 32 #[.string s, .int .i64 base, .bool hex] w fun e w' => e = .returned (.bool (points base hex s.data.toList)) ∧ Below w.heap.size w w' := by
  have hlen : s.data.toList.length = s.size := by simp
  go_enter Try.func32, Try.ntmps32
  go_wp2
  go_loopw [7] (fun ii wr => ∃ k : Nat, k ≤ s.size ∧ ii = .int .i64 k ∧ wr = w ∧ Hid (∀ j, j < k → s.data.toList[j]? ≠ some 46)) (fun ii _ => s.size - (intOf ii).toNat)
  case atStart => exact ⟨0, Nat.zero_le _, rfl, rfl, Lib.hid fun j h => by omega⟩
  case round =>
    obtain ⟨k, hk, rfl, hw, hP⟩ := hrel
    subst hw
    by_cases hlt : k < s.size
    · have hx := Lib.hid (at_of s k hlt)
      by_cases h46 : s[k] = 46
      · have d1 : ((s[k].toNat : Int) != 46) = false := by rw [h46]; rfl
        obtain ⟨w1, w2⟩ := while_at s.data.toList k (by rw [hx.out, h46]) hP.out
        have ea : (s.extract 0 k).data.toList = s.data.toList.take k := by rw [extract_take]; simp
        have eb : (s.extract (k + 1) s.size).data.toList = s.data.toList.drop (k + 1) := extract_drop s (k + 1)
        have hr : points base hex s.data.toList = (((row base (s.extract 0 k).data.toList || (hex && under base (s.extract 0 k).data.toList)) && ((s.extract (k + 1) s.size).data.toList.isEmpty || row base (s.extract (k + 1) s.size).data.toList)) || ((s.extract 0 k).data.toList.isEmpty && row base (s.extract (k + 1) s.size).data.toList)) := by
          unfold points; rw [w2, w1, ea, eb]
        have hza : (s.extract 0 k).size ≤ 1048576 := by simp; omega
        have hzb : (s.extract (k + 1) s.size).size ≤ 1048576 := by simp; omega
        clear w1 w2 ea eb h46
        rw [← list_of, ← list_of] at hr
        have HR := Lib.hid hr
        clear hr
        have hA : Below wr.heap.size wr wr := Below.refl _ _
        cases hra : row base (s.extract 0 k).data.toList with
        | true =>
          cases hrb : row base (s.extract (k + 1) s.size).data.toList <;> cases heb : (s.extract (k + 1) s.size).toList.isEmpty <;> cases hea : (s.extract 0 k).toList.isEmpty
          all_goals
            (have heb' := Lib.hid heb
             have hea' := Lib.hid hea
             go_wp2_with (go_at_call 20; refine (refRow_any _ (by first | exact hza | exact hzb) base hb _).mono ?_; rintro e w1 ⟨he, hB1⟩; (first | (rw [hra] at he; subst he) | (rw [hrb] at he; subst he)); replace hA := hA.trans (hB1.mono hA.size); clear hB1)
             go_ret
             exact ⟨ret_bool (by rw [HR.out, hra, hrb, heb'.out, hea'.out]; rfl), hA⟩)
        | false =>
          cases hex with
          | false =>
            cases hrb : row base (s.extract (k + 1) s.size).data.toList <;> cases heb : (s.extract (k + 1) s.size).toList.isEmpty <;> cases hea : (s.extract 0 k).toList.isEmpty
            all_goals
              (have heb' := Lib.hid heb
               have hea' := Lib.hid hea
               go_wp2_with (go_at_call 20; refine (refRow_any _ (by first | exact hza | exact hzb) base hb _).mono ?_; rintro e w1 ⟨he, hB1⟩; (first | (rw [hra] at he; subst he) | (rw [hrb] at he; subst he)); replace hA := hA.trans (hB1.mono hA.size); clear hB1)
               go_ret
               exact ⟨ret_bool (by rw [HR.out, hra, hrb, heb'.out, hea'.out]; rfl), hA⟩)
          | true =>
            cases hua : under base (s.extract 0 k).data.toList <;> cases hrb : row base (s.extract (k + 1) s.size).data.toList <;> cases heb : (s.extract (k + 1) s.size).toList.isEmpty <;> cases hea : (s.extract 0 k).toList.isEmpty
            all_goals
              (have heb' := Lib.hid heb
               have hea' := Lib.hid hea
               go_wp2_with (first
                 | (go_at_call 29; refine (under_any _ hza base hb _).mono ?_; rintro e w1 ⟨he, hB1⟩; rw [hua] at he; subst he; replace hA := hA.trans (hB1.mono hA.size); clear hB1)
                 | (go_at_call 20; refine (refRow_any _ (by first | exact hza | exact hzb) base hb _).mono ?_; rintro e w1 ⟨he, hB1⟩; (first | (rw [hra] at he; subst he) | (rw [hrb] at he; subst he)); replace hA := hA.trans (hB1.mono hA.size); clear hB1))
               go_ret
               exact ⟨ret_bool (by rw [HR.out, hra, hua, hrb, heb'.out, hea'.out]; rfl), hA⟩)
      · have d1 : ((s[k].toNat : Int) != 46) = true := by
          rw [bne, bytes_n s[k] 46 46 rfl]; simpa using h46
        have hP' : Hid (∀ j, j < k + 1 → s.data.toList[j]? ≠ some 46) := Lib.hid fun j hj => by
          by_cases e : j = k
          · subst e; rw [hx.out]; simpa using h46
          · exact hP.out j (by omega)
        clear h46
        go_wp2
        go_roundw
        case rel => exact ⟨k + 1, by omega, by go_num, trivial, hP'⟩
        case measure => simp [intOf]; omega
    · obtain rfl : k = s.size := by omega
      have hr : points base hex s.data.toList = false := by
        unfold points
        rw [while_none s.data.toList fun j => by
          by_cases hj : j < s.size
          · exact hP.out j hj
          · rw [List.getElem?_eq_none (by omega)]; simp]
      have hr := Lib.hid hr
      go_wp2
      go_ret
      exact ⟨by first | rfl | exact ret_bool hr.out.symm, Below.refl _ _⟩
end Go.Proofs.Ytakbhbhikknhkaa
