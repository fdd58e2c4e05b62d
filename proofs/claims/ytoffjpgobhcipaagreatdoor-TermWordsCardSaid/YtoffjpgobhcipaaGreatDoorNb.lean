/-
  Texts J K L M N of an earlier seat, under this one's numbers.
-/
import Derived.Test.YtoffjpgobhcipaaGreatDoorNa
import Derived.Deep.LoopGhost
import Derived.Deep.CutRange
import Derived.Deep.DeepCutAuto
set_option maxRecDepth 100000
/-
  Layer 5: contract of the document's Int.
-/
namespace Go.Proofs.YtoffjpgobhcipaaGreatDoor.Num
open Go.ChangeShapes Go.WideShapes Go.ChangeAt Go.RowKit

/-- is a text a whole number? -/
def whole? (l : List UInt8) : Bool :=
  decide (l = [48]) || (row 10 l && !decide (l.head? = some 48)) || (decide (l.head? = some 48) && under 8 (l.drop 1)) ||
    (if head? 98 66 l then under 2 (l.drop 2) else if head? 111 79 l then under 8 (l.drop 2) else head? 120 88 l && under 16 (l.drop 2))
theorem under_nil (base : Nat) : under base [] = false := rfl
theorem list_is (b : ByteArray) : b.toList = b.data.toList := by
  unfold ByteArray.toList
  rw [ByteArray.toList_loop_eq b b.size 0 [] (by omega) (by omega)]; simp
theorem headed_b (s : ByteArray) (hs : s.size ≤ 1048576) (w : World) :
    Calls Tryz.prog 98 #[.string s, .int .u8 98, .int .u8 66] w fun e w' => e = .returned (.bool (head? 98 66 s.data.toList)) ∧ w' = w := headed_any s hs 98 66 w
theorem headed_o (s : ByteArray) (hs : s.size ≤ 1048576) (w : World) :
    Calls Tryz.prog 98 #[.string s, .int .u8 111, .int .u8 79] w fun e w' => e = .returned (.bool (head? 111 79 s.data.toList)) ∧ w' = w := headed_any s hs 111 79 w
theorem headed_x (s : ByteArray) (hs : s.size ≤ 1048576) (w : World) :
    Calls Tryz.prog 98 #[.string s, .int .u8 120, .int .u8 88] w fun e w' => e = .returned (.bool (head? 120 88 s.data.toList)) ∧ w' = w := headed_any s hs 120 88 w
theorem head_first {a b : UInt8} {l : List UInt8} (h : l.head? ≠ some 48) : head? a b l = false := by
  match l with
  | [] => rfl
  | [c] => rfl
  | c :: d :: t =>
    have : c ≠ 48 := fun e => h (by rw [e]; rfl)
    simp [head?, this]

set_option maxHeartbeats 4000000 in
theorem int_any (s : ByteArray) (hs : s.size ≤ 1048576) (w : World) :
    Calls Tryz.prog 77 #[.string s] w fun e w' => e = .returned (.bool (whole? s.data.toList)) ∧ Below w.heap.size w w' := by
  have hlen : s.data.toList.length = s.size := by simp
  have hA : Below w.heap.size w w := Below.refl _ _
  have hL := Lib.hid (list_is s)
  by_cases h0 : s.size = 0
  · have hn : s.data.toList = [] := List.eq_nil_of_length_eq_zero (by omega)
    have hr : whole? s.data.toList = false := by rw [hn]; rfl
    have hq : (s.toList == [48]) = false := by rw [list_is, hn]; rfl
    have hrow : row 10 s.data.toList = false := by rw [hn]; rfl
    have hb : head? 98 66 s.data.toList = false := by rw [hn]; rfl
    have ho : head? 111 79 s.data.toList = false := by rw [hn]; rfl
    have hx : head? 120 88 s.data.toList = false := by rw [hn]; rfl
    have d : ¬ (1 : Int) < s.size := by omega
    rw [hr]
    clear hn hr hlen
    have t1 : True := trivial
    have t2 : True := trivial
    go_enter Tryz.func77, Tryz.ntmps77
    go_wp2_with (first
      | (go_at_call 79; refine (refRow_any s hs 10 (by decide) _).mono ?_; rintro e w1 ⟨he, hB1⟩; rw [hrow] at he; subst he; replace hA := hA.trans (hB1.mono hA.size); clear hB1)
      | (go_at_call 98; clear t1; refine (headed_b s hs _).mono ?_; rintro e w1 ⟨he, rfl⟩; rw [hb] at he; subst he)
      | (go_at_call 98; clear t2; refine (headed_o s hs _).mono ?_; rintro e w1 ⟨he, rfl⟩; rw [ho] at he; subst he)
      | (go_at_call 98; refine (headed_x s hs _).mono ?_; rintro e w1 ⟨he, rfl⟩; rw [hx] at he; subst he))
    go_ret
    exact ⟨ret_bool rfl, hA⟩
  · have i0 : 0 < s.size := by omega
    have c0 : s.data.toList.head? = some s[0] := one_of s i0
    by_cases hq1 : s.data.toList = [48]
    · have hr : whole? s.data.toList = true := by rw [hq1]; rfl
      have hq : (s.toList == [48]) = true := by rw [list_is, hq1]; rfl
      rw [hr]
      clear hr hlen hq1 c0
      cases hrow : row 10 s.data.toList
      all_goals
        (go_enter Tryz.func77, Tryz.ntmps77
         go_wp2_with (go_at_call 79; refine (refRow_any s hs 10 (by decide) _).mono ?_; rintro e w1 ⟨he, hB1⟩; rw [hrow] at he; subst he; replace hA := hA.trans (hB1.mono hA.size); clear hB1)
         go_ret
         exact ⟨ret_bool rfl, hA⟩)
    · have hq : (s.toList == [48]) = false := by rw [list_is]; simpa using hq1
      have hw : whole? s.data.toList = ((row 10 s.data.toList && !decide (s[0] = 48)) || (decide (s[0] = 48) && under 8 (s.data.toList.drop 1)) || (if head? 98 66 s.data.toList then under 2 (s.data.toList.drop 2) else if head? 111 79 s.data.toList then under 8 (s.data.toList.drop 2) else head? 120 88 s.data.toList && under 16 (s.data.toList.drop 2))) := by
        unfold whole?
        have e : decide (some s[0] = some (48 : UInt8)) = decide (s[0] = 48) := by rw [Bool.eq_iff_iff]; simp
        rw [c0, decide_eq_false hq1, Bool.false_or, e]
      have HW := Lib.hid hw
      have b0 := bytes_n s[0] 48 48 rfl
      by_cases h48 : s[0] = 48
      · have d1 : (1 : Int) < s.size := by
          have : s.size ≠ 1 := fun h => hq1 (by
            have h1 : s.data.toList.length = 1 := by omega
            obtain ⟨c, hc⟩ := List.length_eq_one_iff.1 h1
            rw [hc] at c0
            simp at c0
            rw [hc, c0, h48])
          omega
        have b1 : ((s[0].toNat : Int) == 48) = true := by rw [b0]; simpa using h48
        have b2 : ((s[0].toNat : Int) != 48) = false := by rw [bne, b1]; rfl
        have HD := Lib.hid h48
        have hz1 : (s.extract 1 s.size).size ≤ 1048576 := by simp; omega
        have hz2 : (s.extract 2 s.size).size ≤ 1048576 := by simp; omega
        have HE1 := Lib.hid (extract_drop s 1)
        have HE2 := Lib.hid (extract_drop s 2)
        clear hw b0 h48 hq1 c0
        have t3 : True := trivial
        cases hu1 : under 8 (s.extract 1 s.size).data.toList with
        | true =>
          have hr : whole? s.data.toList = true := by rw [HW.out, HD.out, ← HE1.out, hu1]; simp
          rw [hr]
          clear hr hlen
          cases hrow : row 10 s.data.toList
          all_goals
            (go_enter Tryz.func77, Tryz.ntmps77
             go_wp2_with (first
               | (go_at_call 79; refine (refRow_any s hs 10 (by decide) _).mono ?_; rintro e w1 ⟨he, hB1⟩; rw [hrow] at he; subst he; replace hA := hA.trans (hB1.mono hA.size); clear hB1)
               | (go_at_call 97; clear t3; refine (under_any _ hz1 8 (by decide) _).mono ?_; rintro e w1 ⟨he, hB1⟩; rw [hu1] at he; subst he; replace hA := hA.trans (hB1.mono hA.size); clear hB1))
             go_ret
             exact ⟨ret_bool rfl, hA⟩)
        | false =>
          have hw2 : whole? s.data.toList = (if head? 98 66 s.data.toList then under 2 (s.extract 2 s.size).data.toList else if head? 111 79 s.data.toList then under 8 (s.extract 2 s.size).data.toList else head? 120 88 s.data.toList && under 16 (s.extract 2 s.size).data.toList) := by
            rw [HW.out, HD.out, ← HE1.out, hu1, ← HE2.out]; simp
          have t1 : True := trivial
          have t2 : True := trivial
          have HW2 := Lib.hid hw2
          clear hw2 hlen
          have dd : head? 98 66 s.data.toList = true ∨ head? 111 79 s.data.toList = true ∨ head? 120 88 s.data.toList = true → (2 : Int) ≤ s.size := by
            intro h
            by_cases h2 : s.data.toList.length < 2
            · rw [head_short _ _ _ h2, head_short _ _ _ h2, head_short _ _ _ h2] at h; simp at h
            · have : s.data.toList.length = s.size := by simp
              omega
          cases hb : head? 98 66 s.data.toList with
          | true =>
            have d2 := dd (.inl hb)
            clear dd
            cases hu2 : under 2 (s.extract 2 s.size).data.toList <;> cases hrow : row 10 s.data.toList
            all_goals
              (go_enter Tryz.func77, Tryz.ntmps77
               go_wp2_with (first
                 | (go_at_call 79; refine (refRow_any s hs 10 (by decide) _).mono ?_; rintro e w1 ⟨he, hB1⟩; rw [hrow] at he; subst he; replace hA := hA.trans (hB1.mono hA.size); clear hB1)
                 | (go_at_call 98; clear t1; refine (headed_b s hs _).mono ?_; rintro e w1 ⟨he, rfl⟩; rw [hb] at he; subst he)
                 | (go_at_call 97; clear t3; refine (under_any _ hz1 8 (by decide) _).mono ?_; rintro e w1 ⟨he, hB1⟩; rw [hu1] at he; subst he; replace hA := hA.trans (hB1.mono hA.size); clear hB1)
                 | (go_at_call 97; refine (under_any _ hz2 2 (by decide) _).mono ?_; rintro e w1 ⟨he, hB1⟩; rw [hu2] at he; subst he; replace hA := hA.trans (hB1.mono hA.size); clear hB1))
               go_ret
               exact ⟨ret_bool (by rw [HW2.out, hb, hu2]; rfl), hA⟩)
          | false =>
            cases ho : head? 111 79 s.data.toList with
            | true =>
              have d2 := dd (.inr (.inl ho))
              clear dd
              cases hu2 : under 8 (s.extract 2 s.size).data.toList <;> cases hrow : row 10 s.data.toList
              all_goals
                (go_enter Tryz.func77, Tryz.ntmps77
                 go_wp2_with (first
                   | (go_at_call 79; refine (refRow_any s hs 10 (by decide) _).mono ?_; rintro e w1 ⟨he, hB1⟩; rw [hrow] at he; subst he; replace hA := hA.trans (hB1.mono hA.size); clear hB1)
                   | (go_at_call 98; clear t1; refine (headed_b s hs _).mono ?_; rintro e w1 ⟨he, rfl⟩; rw [hb] at he; subst he)
                   | (go_at_call 98; clear t2; refine (headed_o s hs _).mono ?_; rintro e w1 ⟨he, rfl⟩; rw [ho] at he; subst he)
                   | (go_at_call 97; clear t3; refine (under_any _ hz1 8 (by decide) _).mono ?_; rintro e w1 ⟨he, hB1⟩; rw [hu1] at he; subst he; replace hA := hA.trans (hB1.mono hA.size); clear hB1)
                   | (go_at_call 97; refine (under_any _ hz2 8 (by decide) _).mono ?_; rintro e w1 ⟨he, hB1⟩; rw [hu2] at he; subst he; replace hA := hA.trans (hB1.mono hA.size); clear hB1))
                 go_ret
                 exact ⟨ret_bool (by rw [HW2.out, hb, ho, hu2]; rfl), hA⟩)
            | false =>
              cases hx : head? 120 88 s.data.toList with
              | true =>
                have d2 := dd (.inr (.inr hx))
                clear dd
                cases hu2 : under 16 (s.extract 2 s.size).data.toList <;> cases hrow : row 10 s.data.toList
                all_goals
                  (go_enter Tryz.func77, Tryz.ntmps77
                   go_wp2_with (first
                     | (go_at_call 79; refine (refRow_any s hs 10 (by decide) _).mono ?_; rintro e w1 ⟨he, hB1⟩; rw [hrow] at he; subst he; replace hA := hA.trans (hB1.mono hA.size); clear hB1)
                     | (go_at_call 98; clear t1; refine (headed_b s hs _).mono ?_; rintro e w1 ⟨he, rfl⟩; rw [hb] at he; subst he)
                     | (go_at_call 98; clear t2; refine (headed_o s hs _).mono ?_; rintro e w1 ⟨he, rfl⟩; rw [ho] at he; subst he)
                     | (go_at_call 98; refine (headed_x s hs _).mono ?_; rintro e w1 ⟨he, rfl⟩; rw [hx] at he; subst he)
                     | (go_at_call 97; clear t3; refine (under_any _ hz1 8 (by decide) _).mono ?_; rintro e w1 ⟨he, hB1⟩; rw [hu1] at he; subst he; replace hA := hA.trans (hB1.mono hA.size); clear hB1)
                     | (go_at_call 97; refine (under_any _ hz2 16 (by decide) _).mono ?_; rintro e w1 ⟨he, hB1⟩; rw [hu2] at he; subst he; replace hA := hA.trans (hB1.mono hA.size); clear hB1))
                   go_ret
                   exact ⟨ret_bool (by rw [HW2.out, hb, ho, hx, hu2]; rfl), hA⟩)
              | false =>
                clear dd
                cases hrow : row 10 s.data.toList
                all_goals
                  (go_enter Tryz.func77, Tryz.ntmps77
                   go_wp2_with (first
                     | (go_at_call 79; refine (refRow_any s hs 10 (by decide) _).mono ?_; rintro e w1 ⟨he, hB1⟩; rw [hrow] at he; subst he; replace hA := hA.trans (hB1.mono hA.size); clear hB1)
                     | (go_at_call 98; clear t1; refine (headed_b s hs _).mono ?_; rintro e w1 ⟨he, rfl⟩; rw [hb] at he; subst he)
                     | (go_at_call 98; clear t2; refine (headed_o s hs _).mono ?_; rintro e w1 ⟨he, rfl⟩; rw [ho] at he; subst he)
                     | (go_at_call 98; refine (headed_x s hs _).mono ?_; rintro e w1 ⟨he, rfl⟩; rw [hx] at he; subst he)
                     | (go_at_call 97; clear t3; refine (under_any _ hz1 8 (by decide) _).mono ?_; rintro e w1 ⟨he, hB1⟩; rw [hu1] at he; subst he; replace hA := hA.trans (hB1.mono hA.size); clear hB1))
                   go_ret
                   exact ⟨ret_bool (by rw [HW2.out, hb, ho, hx]; rfl), hA⟩)
      · have b1 : ((s[0].toNat : Int) == 48) = false := by rw [b0]; simpa using h48
        have b2 : ((s[0].toNat : Int) != 48) = true := by rw [bne, b1]; rfl
        have hh : ∀ a b, head? a b s.data.toList = false := fun a b => head_first (by rw [c0]; simpa using h48)
        have hb := hh 98 66
        have ho := hh 111 79
        have hx := hh 120 88
        have hr : whole? s.data.toList = row 10 s.data.toList := by
          rw [hw, hb, ho, hx, decide_eq_false h48]; simp
        clear hh hw b0 h48 hq1 c0 hlen
        have t1 : True := trivial
        have t2 : True := trivial
        have HR := Lib.hid hr
        clear hr
        cases hrow : row 10 s.data.toList
        all_goals
          (go_enter Tryz.func77, Tryz.ntmps77
           go_wp2_with (first
             | (go_at_call 79; refine (refRow_any s hs 10 (by decide) _).mono ?_; rintro e w1 ⟨he, hB1⟩; rw [hrow] at he; subst he; replace hA := hA.trans (hB1.mono hA.size); clear hB1)
             | (go_at_call 98; clear t1; refine (headed_b s hs _).mono ?_; rintro e w1 ⟨he, rfl⟩; rw [hb] at he; subst he)
             | (go_at_call 98; clear t2; refine (headed_o s hs _).mono ?_; rintro e w1 ⟨he, rfl⟩; rw [ho] at he; subst he)
             | (go_at_call 98; refine (headed_x s hs _).mono ?_; rintro e w1 ⟨he, rfl⟩; rw [hx] at he; subst he))
           all_goals (go_ret; exact ⟨ret_bool (by rw [HR.out, hrow]), hA⟩))
end Go.Proofs.YtoffjpgobhcipaaGreatDoor.Num

/-
  Layer 5: contract of the document's Float.
-/
namespace Go.Proofs.YtoffjpgobhcipaaGreatDoor.Num
open Go.ChangeShapes Go.WideShapes Go.ChangeAt Go.RowKit

/-- is there a cut of a text of which something holds? -/
def anyCut (f : List UInt8 → List UInt8 → Bool) (l : List UInt8) : Bool := (List.range (l.length + 1)).any fun i => f (l.take i) (l.drop i)
theorem anyCut_yes {f : List UInt8 → List UInt8 → Bool} {l : List UInt8} {k : Nat} (hk : k ≤ l.length) (h : f (l.take k) (l.drop k) = true) : anyCut f l = true := by
  unfold anyCut
  rw [List.any_eq_true]
  exact ⟨k, List.mem_range.2 (by omega), h⟩
theorem anyCut_no {f : List UInt8 → List UInt8 → Bool} {l : List UInt8} (h : ∀ j, j < l.length + 1 → f (l.take j) (l.drop j) = false) : anyCut f l = false := by
  unfold anyCut
  rw [List.any_eq_false]
  intro k hk
  rw [h k (List.mem_range.1 hk)]; decide
def hexCut (a b : List UInt8) : Bool := power 112 80 b && (points 16 true a || under 16 a)
def decCut (a b : List UInt8) : Bool := power 101 69 b && (points 10 false a || row 10 a)
/-- is a text a broken number? -/
def broken? (l : List UInt8) : Bool := if head? 120 88 l then anyCut hexCut (l.drop 2) else points 10 false l || anyCut decCut l

theorem power_p (s : ByteArray) (hs : s.size ≤ 1048576) (w : World) :
    Calls Tryz.prog 99 #[.string s, .int .u8 112, .int .u8 80] w fun e w' => e = .returned (.bool (power 112 80 s.data.toList)) ∧ Below w.heap.size w w' := power_any s hs 112 80 w
theorem power_e (s : ByteArray) (hs : s.size ≤ 1048576) (w : World) :
    Calls Tryz.prog 99 #[.string s, .int .u8 101, .int .u8 69] w fun e w' => e = .returned (.bool (power 101 69 s.data.toList)) ∧ Below w.heap.size w w' := power_any s hs 101 69 w
theorem extract_front (s : ByteArray) (k : Nat) : (s.extract 0 k).data.toList = s.data.toList.take k := by rw [extract_take]; simp

set_option maxHeartbeats 4000000 in
theorem float_any (s : ByteArray) (hs : s.size ≤ 1048576) (w : World) :
    Calls Tryz.prog 78 #[.string s] w fun e w' => e = .returned (.bool (broken? s.data.toList)) ∧ Below w.heap.size w w' := by
  have hlen : s.data.toList.length = s.size := by simp
  have hA : Below w.heap.size w w := Below.refl _ _
  cases hx : head? 120 88 s.data.toList with
  | true =>
    have d2 : (2 : Int) ≤ s.size := by
      by_cases h2 : s.data.toList.length < 2
      · rw [head_short _ _ _ h2] at hx; cases hx
      · omega
    have hr : broken? s.data.toList = anyCut hexCut (s.extract 2 s.size).data.toList := by unfold broken?; rw [hx, extract_drop]; rfl
    rw [hr]
    have hz : (s.extract 2 s.size).size ≤ 1048576 := by simp; omega
    clear hr hlen
    obtain ⟨t, ht⟩ : ∃ t, t = s.extract 2 s.size := ⟨_, rfl⟩
    rw [← ht] at hz ⊢
    have HT := Lib.hid ht
    clear ht
    go_enter Tryz.func78, Tryz.ntmps78
    go_wp2_with (go_at_call 98; refine (headed_x s hs _).mono ?_; rintro e w1 ⟨he, hw⟩; rw [hw]; rw [hx] at he; subst he; clear hw w1)
    rw [← HT.out]
    clear d2 hx hs HT
    have hlen : t.data.toList.length = t.size := by simp
    go_loopw [4] (fun ii wr => ∃ k : Nat, k ≤ t.size + 1 ∧ ii = .int .i64 k ∧ Below w.heap.size w wr ∧ Hid (∀ j, j < k → hexCut (t.data.toList.take j) (t.data.toList.drop j) = false)) (fun ii _ => t.size + 1 - (intOf ii).toNat)
    case atStart => exact ⟨0, Nat.zero_le _, rfl, hA, Lib.hid fun j h => by omega⟩
    case round =>
      obtain ⟨k, hk, rfl, hB, hP⟩ := hrel
      by_cases hlt : k ≤ t.size
      · have HE1 := Lib.hid (extract_drop t k)
        have HE2 := Lib.hid (extract_front t k)
        have hz1 : (t.extract k t.size).size ≤ 1048576 := by simp; omega
        have hz2 : (t.extract 0 k).size ≤ 1048576 := by simp; omega
        have HL := Lib.hid hlen
        clear hlen
        have key : ∀ v, hexCut (t.data.toList.take k) (t.data.toList.drop k) = v → ∀ j, j < k + 1 → v = false → hexCut (t.data.toList.take j) (t.data.toList.drop j) = false := by
          intro v h j hj hv
          by_cases e : j = k
          · subst e; rw [h, hv]
          · exact hP.out j (by omega)
        have HK := Lib.hid key
        clear key
        cases hp : power 112 80 (t.extract k t.size).data.toList with
        | false =>
          have hc : hexCut (t.data.toList.take k) (t.data.toList.drop k) = false := by unfold hexCut; rw [← HE1.out, hp]; rfl
          have hc := Lib.hid hc
          go_wp2_with (go_at_call 99; refine (power_p _ hz1 _).mono ?_; rintro e w1 ⟨he, hB1⟩; rw [hp] at he; subst he; replace hB := hB.trans (hB1.mono hB.size); clear hB1)
          go_roundw
          case rel => exact ⟨k + 1, by omega, by go_num, hB, Lib.hid fun j hj => HK.out _ hc.out j hj rfl⟩
          case measure => simp [intOf]; omega
        | true =>
          cases hpt : points 16 true (t.extract 0 k).data.toList <;> cases hu : under 16 (t.extract 0 k).data.toList
          all_goals
            (have hcv : hexCut (t.data.toList.take k) (t.data.toList.drop k) = _ := (by unfold hexCut; rw [← HE1.out, ← HE2.out, hp, hpt, hu])
             have hc := Lib.hid hcv
             clear hcv
             go_wp2_with (first
              | (go_at_call 99; refine (power_p _ hz1 _).mono ?_; rintro e w1 ⟨he, hB1⟩; rw [hp] at he; subst he; replace hB := hB.trans (hB1.mono hB.size); clear hB1)
              | (go_at_call 100; refine (pointed_any _ hz2 16 (by decide) true _).mono ?_; rintro e w1 ⟨he, hB1⟩; rw [hpt] at he; subst he; replace hB := hB.trans (hB1.mono hB.size); clear hB1)
              | (go_at_call 97; refine (under_any _ hz2 16 (by decide) _).mono ?_; rintro e w1 ⟨he, hB1⟩; rw [hu] at he; subst he; replace hB := hB.trans (hB1.mono hB.size); clear hB1))
             first
              | (go_ret
                 exact ⟨ret_bool (anyCut_yes (by have := HL.out; omega) hc.out).symm, hB⟩)
              | (go_roundw
                 case rel => exact ⟨k + 1, by omega, by go_num, hB, Lib.hid fun j hj => HK.out _ hc.out j hj rfl⟩
                 case measure => simp [intOf]; omega))
      · have hn : anyCut hexCut t.data.toList = false := anyCut_no fun j hj => hP.out j (by omega)
        have hn := Lib.hid hn
        go_wp2
        go_ret
        exact ⟨by first | rfl | exact ret_bool hn.out.symm, hB⟩
  | false =>
    have hlen' := hlen
    cases hpw : points 10 false s.data.toList with
    | true =>
      have hr : broken? s.data.toList = true := by unfold broken?; rw [hx, hpw]; rfl
      rw [hr]
      clear hr hlen hlen'
      go_enter Tryz.func78, Tryz.ntmps78
      go_wp2_with (first
        | (go_at_call 98; refine (headed_x s hs _).mono ?_; rintro e w1 ⟨he, hw⟩; rw [hw]; rw [hx] at he; subst he; clear hw w1)
        | (go_at_call 100; refine (pointed_any s hs 10 (by decide) false _).mono ?_; rintro e w1 ⟨he, hB1⟩; rw [hpw] at he; subst he; replace hA := hA.trans (hB1.mono hA.size); clear hB1))
      go_ret
      exact ⟨ret_bool rfl, hA⟩
    | false =>
    have hr : broken? s.data.toList = anyCut decCut s.data.toList := by unfold broken?; rw [hx, hpw]; rfl
    rw [hr]
    clear hr hlen hlen'
    go_enter Tryz.func78, Tryz.ntmps78
    go_wp2_with (first
        | (go_at_call 98; refine (headed_x s hs _).mono ?_; rintro e w1 ⟨he, hw⟩; rw [hw]; rw [hx] at he; subst he; clear hw w1)
        | (go_at_call 100; refine (pointed_any s hs 10 (by decide) false _).mono ?_; rintro e w1 ⟨he, hB1⟩; rw [hpw] at he; subst he; replace hA := hA.trans (hB1.mono hA.size); clear hB1))
    clear hx hpw
    have hlen : s.data.toList.length = s.size := by simp
    go_loopw [5] (fun ii wr => ∃ k : Nat, k ≤ s.size + 1 ∧ ii = .int .i64 k ∧ Below w.heap.size w wr ∧ Hid (∀ j, j < k → decCut (s.data.toList.take j) (s.data.toList.drop j) = false)) (fun ii _ => s.size + 1 - (intOf ii).toNat)
    case atStart => exact ⟨0, Nat.zero_le _, rfl, hA, Lib.hid fun j h => by omega⟩
    case round =>
      obtain ⟨k, hk, rfl, hB, hP⟩ := hrel
      by_cases hlt : k ≤ s.size
      · have HE1 := Lib.hid (extract_drop s k)
        have HE2 := Lib.hid (extract_front s k)
        have hz1 : (s.extract k s.size).size ≤ 1048576 := by simp; omega
        have hz2 : (s.extract 0 k).size ≤ 1048576 := by simp; omega
        have HL := Lib.hid hlen
        clear hlen
        have key : ∀ v, decCut (s.data.toList.take k) (s.data.toList.drop k) = v → ∀ j, j < k + 1 → v = false → decCut (s.data.toList.take j) (s.data.toList.drop j) = false := by
          intro v h j hj hv
          by_cases e : j = k
          · subst e; rw [h, hv]
          · exact hP.out j (by omega)
        have HK := Lib.hid key
        clear key
        cases hp : power 101 69 (s.extract k s.size).data.toList with
        | false =>
          have hc : decCut (s.data.toList.take k) (s.data.toList.drop k) = false := by unfold decCut; rw [← HE1.out, hp]; rfl
          have hc := Lib.hid hc
          go_wp2_with (go_at_call 99; refine (power_e _ hz1 _).mono ?_; rintro e w1 ⟨he, hB1⟩; rw [hp] at he; subst he; replace hB := hB.trans (hB1.mono hB.size); clear hB1)
          go_roundw
          case rel => exact ⟨k + 1, by omega, by go_num, hB, Lib.hid fun j hj => HK.out _ hc.out j hj rfl⟩
          case measure => simp [intOf]; omega
        | true =>
          cases hpt : points 10 false (s.extract 0 k).data.toList <;> cases hu : row 10 (s.extract 0 k).data.toList
          all_goals
            (have hcv : decCut (s.data.toList.take k) (s.data.toList.drop k) = _ := (by unfold decCut; rw [← HE1.out, ← HE2.out, hp, hpt, hu])
             have hc := Lib.hid hcv
             clear hcv
             go_wp2_with (first
              | (go_at_call 99; refine (power_e _ hz1 _).mono ?_; rintro e w1 ⟨he, hB1⟩; rw [hp] at he; subst he; replace hB := hB.trans (hB1.mono hB.size); clear hB1)
              | (go_at_call 100; refine (pointed_any _ hz2 10 (by decide) false _).mono ?_; rintro e w1 ⟨he, hB1⟩; rw [hpt] at he; subst he; replace hB := hB.trans (hB1.mono hB.size); clear hB1)
              | (go_at_call 79; refine (refRow_any _ hz2 10 (by decide) _).mono ?_; rintro e w1 ⟨he, hB1⟩; rw [hu] at he; subst he; replace hB := hB.trans (hB1.mono hB.size); clear hB1))
             first
              | (go_ret
                 exact ⟨ret_bool (anyCut_yes (by have := HL.out; omega) hc.out).symm, hB⟩)
              | (go_roundw
                 case rel => exact ⟨k + 1, by omega, by go_num, hB, Lib.hid fun j hj => HK.out _ hc.out j hj rfl⟩
                 case measure => simp [intOf]; omega))
      · have hn : anyCut decCut s.data.toList = false := anyCut_no fun j hj => hP.out j (by omega)
        have hn := Lib.hid hn
        go_wp2
        go_ret
        exact ⟨by first | rfl | exact ret_bool hn.out.symm, hB⟩
end Go.Proofs.YtoffjpgobhcipaaGreatDoor.Num

/-
  Layer 5: contract of the document's Kind.
-/
namespace Go.Proofs.YtoffjpgobhcipaaGreatDoor.Num
open Go.ChangeShapes Go.WideShapes Go.ChangeAt Go.RowKit

/-- a text's kind as the document has it -/
def kindOf (l : List UInt8) : Nat :=
  if whole? l then 3 else if broken? l then 4 else if 1 < l.length ∧ l.getLast? = some 105 ∧ (whole? l.dropLast = true ∨ broken? l.dropLast = true ∨ row 10 l.dropLast = true) then 5 else 0
theorem last_of (s : ByteArray) (n : Nat) (hn : s.size = n + 1) (h : n < s.size) : s.data.toList.getLast? = some s[n] := by
  have hl : s.data.toList.length = s.size := by simp
  rw [List.getLast?_eq_getElem?, hl, hn, Nat.add_sub_cancel]; exact at_of s n h
theorem droplast_of (s : ByteArray) (n : Nat) (hn : s.size = n + 1) : (s.extract 0 n).data.toList = s.data.toList.dropLast := by
  have hl : s.data.toList.length = s.size := by simp
  rw [extract_front, List.dropLast_eq_take, hl, hn, Nat.add_sub_cancel]

set_option maxHeartbeats 4000000 in
theorem refKind_any (s : ByteArray) (hs : s.size ≤ 1048576) (w : World) :
    Calls Tryz.prog 57 #[.string s] w fun e w' => e = .returned (.int .u8 (kindOf s.data.toList)) ∧ Below w.heap.size w w' := by
  have hlen : s.data.toList.length = s.size := by simp
  have hA : Below w.heap.size w w := Below.refl _ _
  cases hw : whole? s.data.toList with
  | true =>
    have hr : kindOf s.data.toList = 3 := by unfold kindOf; rw [hw]; rfl
    rw [hr]
    clear hr hlen
    go_enter Tryz.func57, Tryz.ntmps57
    go_wp2_with (go_at_call 77; refine (int_any s hs _).mono ?_; rintro e w1 ⟨he, hB1⟩; rw [hw] at he; subst he; replace hA := hA.trans (hB1.mono hA.size); clear hB1)
    go_ret
    exact ⟨ret_int rfl, hA⟩
  | false =>
    cases hf : broken? s.data.toList with
    | true =>
      have hr : kindOf s.data.toList = 4 := by unfold kindOf; rw [hw, hf]; rfl
      rw [hr]
      clear hr hlen
      go_enter Tryz.func57, Tryz.ntmps57
      go_wp2_with (first
        | (go_at_call 77; refine (int_any s hs _).mono ?_; rintro e w1 ⟨he, hB1⟩; rw [hw] at he; subst he; replace hA := hA.trans (hB1.mono hA.size); clear hB1)
        | (go_at_call 78; refine (float_any s hs _).mono ?_; rintro e w1 ⟨he, hB1⟩; rw [hf] at he; subst he; replace hA := hA.trans (hB1.mono hA.size); clear hB1))
      go_ret
      exact ⟨ret_int rfl, hA⟩
    | false =>
      have hk : kindOf s.data.toList = if 1 < s.data.toList.length ∧ s.data.toList.getLast? = some 105 ∧ (whole? s.data.toList.dropLast = true ∨ broken? s.data.toList.dropLast = true ∨ row 10 s.data.toList.dropLast = true) then 5 else 0 := by
        unfold kindOf; rw [hw, hf]; rfl
      by_cases h1 : 1 < s.size
      · obtain ⟨n, hn⟩ : ∃ n, s.size = n + 1 := ⟨s.size - 1, by omega⟩
        have hz : (s.extract 0 n).size ≤ 1048576 := by simp; omega
        have i1 : n < s.size := by omega
        rw [hlen, last_of s n hn i1, ← droplast_of s n hn] at hk
        have d1 : (1 : Int) < s.size := by omega
        have e1 : (s.size : Int) - 1 = n := by omega
        have i2 : n ≤ s.size := by omega
        have b0 := bytes_n s[n] 105 105 rfl
        have HN := Lib.hid hn
        have HK := Lib.hid hk
        clear hk hn hlen
        by_cases h105 : s[n] = 105
        · have b1 : ((s[n].toNat : Int) == 105) = true := by rw [b0]; simpa using h105
          have HC := Lib.hid h105
          have HK2 := Lib.hid (show kindOf s.data.toList = if (whole? (s.extract 0 n).data.toList || broken? (s.extract 0 n).data.toList || row 10 (s.extract 0 n).data.toList) = true then 5 else 0 by rw [HK.out, h105]; simp [h1, or_assoc])
          clear b0 h105
          have t1 : True := trivial
          have t2 : True := trivial
          cases hw2 : whole? (s.extract 0 n).data.toList <;> cases hf2 : broken? (s.extract 0 n).data.toList <;> cases hr2 : row 10 (s.extract 0 n).data.toList
          all_goals
            ((first
              | (have hv : kindOf s.data.toList = 5 := (by rw [HK2.out, hw2, hf2, hr2]; rfl)
                 rw [hv]
                 clear hv)
              | (have hv : kindOf s.data.toList = 0 := (by rw [HK2.out, hw2, hf2, hr2]; rfl)
                 rw [hv]
                 clear hv))
             go_enter Tryz.func57, Tryz.ntmps57
             go_wp2_with (first
              | (go_at_call 77; clear t1; refine (int_any s hs _).mono ?_; rintro e w1 ⟨he, hB1⟩; rw [hw] at he; subst he; replace hA := hA.trans (hB1.mono hA.size); clear hB1)
              | (go_at_call 78; clear t2; refine (float_any s hs _).mono ?_; rintro e w1 ⟨he, hB1⟩; rw [hf] at he; subst he; replace hA := hA.trans (hB1.mono hA.size); clear hB1)
              | (go_at_call 77; refine (int_any _ hz _).mono ?_; rintro e w1 ⟨he, hB1⟩; rw [hw2] at he; subst he; replace hA := hA.trans (hB1.mono hA.size); clear hB1)
              | (go_at_call 78; refine (float_any _ hz _).mono ?_; rintro e w1 ⟨he, hB1⟩; rw [hf2] at he; subst he; replace hA := hA.trans (hB1.mono hA.size); clear hB1)
              | (go_at_call 79; refine (refRow_any _ hz 10 (by decide) _).mono ?_; rintro e w1 ⟨he, hB1⟩; rw [hr2] at he; subst he; replace hA := hA.trans (hB1.mono hA.size); clear hB1))
             go_ret
             exact ⟨ret_int rfl, hA⟩)
        · have b1 : ((s[n].toNat : Int) == 105) = false := by rw [b0]; simpa using h105
          have hv : kindOf s.data.toList = 0 := by rw [HK.out, if_neg (by simp [h105])]
          rw [hv]
          clear hv b0 h105
          go_enter Tryz.func57, Tryz.ntmps57
          go_wp2_with (first
            | (go_at_call 77; refine (int_any s hs _).mono ?_; rintro e w1 ⟨he, hB1⟩; rw [hw] at he; subst he; replace hA := hA.trans (hB1.mono hA.size); clear hB1)
            | (go_at_call 78; refine (float_any s hs _).mono ?_; rintro e w1 ⟨he, hB1⟩; rw [hf] at he; subst he; replace hA := hA.trans (hB1.mono hA.size); clear hB1))
          go_ret
          exact ⟨ret_int rfl, hA⟩
      · have hv : kindOf s.data.toList = 0 := by rw [hk, if_neg (by omega)]
        rw [hv]
        have d1 : ¬ (1 : Int) < s.size := by omega
        clear hv hk hlen
        go_enter Tryz.func57, Tryz.ntmps57
        go_wp2_with (first
          | (go_at_call 77; refine (int_any s hs _).mono ?_; rintro e w1 ⟨he, hB1⟩; rw [hw] at he; subst he; replace hA := hA.trans (hB1.mono hA.size); clear hB1)
          | (go_at_call 78; refine (float_any s hs _).mono ?_; rintro e w1 ⟨he, hB1⟩; rw [hf] at he; subst he; replace hA := hA.trans (hB1.mono hA.size); clear hB1))
        go_ret
        exact ⟨ret_int rfl, hA⟩
end Go.Proofs.YtoffjpgobhcipaaGreatDoor.Num

/-
  Layer 5: where a run ends, plain; contract of the document's Run.
-/
namespace Go.Proofs.YtoffjpgobhcipaaGreatDoor.Num
open Go.ChangeShapes Go.WideShapes Go.ChangeAt Go.RowKit

/-- does a number begin a text? -/
def starts : List UInt8 → Bool
  | [] => false
  | c :: t => dig 10 c || (decide (c = 46) && (match t with | [] => false | d :: _ => dig 10 d))
def power? (hex : Bool) (d : UInt8) : Bool := if hex then decide (d = 112) || decide (d = 80) else decide (d = 101) || decide (d = 69)
/-- does a run go on at a byte? -/
def goesOn (hex : Bool) (t : List UInt8) : Nat → Bool
  | 0 => match t[0]? with | some c => tail? c | none => false
  | j + 1 => match t[j + 1]?, t[j]? with | some c, some d => tail? c || ((decide (c = 43) || decide (c = 45)) && power? hex d) | _, _ => false
def runFrom (f : Nat → Bool) : Nat → Nat → Nat
  | 0, i => i
  | n + 1, i => if f i then runFrom f n (i + 1) else i
/-- how long the run is that begins a text -/
def runLen (t : List UInt8) : Nat := runFrom (goesOn (head? 120 88 t) t) t.length 0
theorem runFrom_le (f : Nat → Bool) : ∀ n i, runFrom f n i ≤ i + n
  | 0, i => Nat.le_refl _
  | n + 1, i => by
    unfold runFrom
    split
    · have := runFrom_le f n (i + 1); omega
    · omega
theorem runLen_le (t : List UInt8) : runLen t ≤ t.length := by
  have := runFrom_le (goesOn (head? 120 88 t) t) t.length 0
  unfold runLen; omega
theorem tail_cases {c : UInt8} (h : tail? c = true) : (48 ≤ c.toNat ∧ c.toNat ≤ 57) ∨ (97 ≤ c.toNat ∧ c.toNat ≤ 122) ∨ (65 ≤ c.toNat ∧ c.toNat ≤ 90) ∨ c.toNat = 95 ∨ c.toNat = 46 := by
  unfold tail? at h
  simp at h
  omega
theorem tail_no {c : UInt8} (h : tail? c = false) : (c.toNat < 48 ∨ 57 < c.toNat) ∧ (c.toNat < 97 ∨ 122 < c.toNat) ∧ (c.toNat < 65 ∨ 90 < c.toNat) ∧ c.toNat ≠ 95 ∧ c.toNat ≠ 46 := by
  unfold tail? at h
  simp at h
  omega
theorem dig_tail {c : UInt8} (h : dig 10 c = true) : tail? c = true := by
  unfold dig val at h
  rw [decide_eq_true_eq] at h
  unfold tail?
  simp
  split at h
  · omega
  · split at h
    · omega
    · split at h <;> omega
theorem starts_at (s : ByteArray) (a : Nat) (ha : a < s.size) : starts (s.data.toList.drop a) = (dig 10 s[a] || (decide (s[a] = 46) && (if h : a + 1 < s.size then dig 10 s[a + 1] else false))) := by
  have hl : s.data.toList.length = s.size := by simp
  rw [List.drop_eq_getElem_cons (by omega)]
  have e0 : s.data.toList[a]'(by omega) = s[a] := by simp [ByteArray.getElem_eq_getElem_data]
  rw [e0]
  by_cases h : a + 1 < s.size
  · rw [List.drop_eq_getElem_cons (i := a + 1) (by omega), dif_pos h]
    have e1 : s.data.toList[a + 1]'(by omega) = s[a + 1] := by simp [ByteArray.getElem_eq_getElem_data]
    rw [e1]; rfl
  · rw [List.drop_eq_nil_of_le (by omega), dif_neg h]; rfl

end Go.Proofs.YtoffjpgobhcipaaGreatDoor.Num

/-
  Layer 5: contract of the document's Run where a number begins.
-/
namespace Go.Proofs.YtoffjpgobhcipaaGreatDoor.Num
open Go.ChangeShapes Go.WideShapes Go.ChangeAt Go.RowKit

theorem drop_at (s : ByteArray) (a k : Nat) (h1 : a ≤ k) (h2 : k < s.size) : (s.data.toList.drop a)[k - a]? = some s[k] := by
  rw [List.getElem?_drop, show a + (k - a) = k by omega]; exact at_of s k h2
theorem goes_tail {hex : Bool} {t : List UInt8} {j : Nat} {c : UInt8} (h : t[j]? = some c) (hc : tail? c = true) : goesOn hex t j = true := by
  cases j with
  | zero => simp only [goesOn, h, hc]
  | succ j =>
    have hj : j < t.length := by have := (List.getElem?_eq_some_iff.1 h).1; omega
    simp only [goesOn, h, List.getElem?_eq_getElem hj, hc, Bool.true_or]
theorem goes_first {hex : Bool} {t : List UInt8} {c : UInt8} (h : t[0]? = some c) (hc : tail? c = false) : goesOn hex t 0 = false := by
  simp only [goesOn, h, hc]
theorem goes_sign {hex : Bool} {t : List UInt8} {j : Nat} {c d : UInt8} (h : t[j + 1]? = some c) (hd : t[j]? = some d) (hc : tail? c = false) : goesOn hex t (j + 1) = ((decide (c = 43) || decide (c = 45)) && power? hex d) := by
  simp only [goesOn, h, hd, hc, Bool.false_or]

end Go.Proofs.YtoffjpgobhcipaaGreatDoor.Num
