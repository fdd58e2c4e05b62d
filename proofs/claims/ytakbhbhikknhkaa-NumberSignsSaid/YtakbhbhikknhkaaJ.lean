/-
  Layer 5: contract of the document's Int.
-/
import Derived.Test.YtakbhbhikknhkaaI
namespace Go.Proofs.Ytakbhbhikknhkaa
open Go.ChangeShapes Go.WideShapes Go.ChangeAt Go.RowKit

/-- is a text a whole number? -/
def whole? (l : List UInt8) : Bool :=
  decide (l = [48]) || (row 10 l && !decide (l.head? = some 48)) || (decide (l.head? = some 48) && under 8 (l.drop 1)) ||
    (if head? 98 66 l then under 2 (l.drop 2) else if head? 111 79 l then under 8 (l.drop 2) else head? 120 88 l && under 16 (l.drop 2))
theorem under_nil (base : Nat) : under base [] = false := rfl
theorem list_is (b : ByteArray) : b.toList = b.data.toList := by
  unfold ByteArray.toList
  rw [ByteArray.toList_loop_eq b b.size 0 [] (by omega) (by omega)]; simp
theorem headed_b (s : ByteArray) (hs : s.size ≤ 1048576) (w : World) :
    Calls Try.prog 30 #[.string s, .int .u8 98, .int .u8 66] w fun e w' => e = .returned (.bool (head? 98 66 s.data.toList)) ∧ w' = w := headed_any s hs 98 66 w
theorem headed_o (s : ByteArray) (hs : s.size ≤ 1048576) (w : World) :
    Calls Try.prog 30 #[.string s, .int .u8 111, .int .u8 79] w fun e w' => e = .returned (.bool (head? 111 79 s.data.toList)) ∧ w' = w := headed_any s hs 111 79 w
theorem headed_x (s : ByteArray) (hs : s.size ≤ 1048576) (w : World) :
    Calls Try.prog 30 #[.string s, .int .u8 120, .int .u8 88] w fun e w' => e = .returned (.bool (head? 120 88 s.data.toList)) ∧ w' = w := headed_any s hs 120 88 w
theorem head_first {a b : UInt8} {l : List UInt8} (h : l.head? ≠ some 48) : head? a b l = false := by
  match l with
  | [] => rfl
  | [c] => rfl
  | c :: d :: t =>
    have : c ≠ 48 := fun e => h (by rw [e]; rfl)
    simp [head?, this]

set_option maxHeartbeats 4000000 in
theorem int_any (s : ByteArray) (hs : s.size ≤ 1048576) (w : World) :
    Calls Try.prog 18 #[.string s] w fun e w' => e = .returned (.bool (whole? s.data.toList)) ∧ Below w.heap.size w w' := by
  have hlen : s.data.toList.length = s.size := by simp
  have hA : Below w.heap.size w w := Below.refl _ _
  have hL := Lib.hid (list_is s)
  by_cases h0 : s.size = 0
  · have hn : s.data.toList = [] := List.eq_nil_of_length_eq_zero (by omega)
    have hr : whole? s.data.toList = false := by rw [hn]; rfl
    have hq : (s.toList == [48]) = false := by rw [list_is, hn]; rfl
    have hrow : row 10 s.data.toList = false := by rw [hn]; rfl
    have hb : head? 98 66 s.data.toList = false := by rw [hn]; rfl
    have ho : head? 111 79 s.data.toList = false := by rw [hn]; rfl
    have hx : head? 120 88 s.data.toList = false := by rw [hn]; rfl
    have d : ¬ (1 : Int) < s.size := by omega
    rw [hr]
    clear hn hr hlen
    have t1 : True := trivial
    have t2 : True := trivial
    go_enter Try.func18, Try.ntmps18
    go_wp2_with (first
      | (go_at_call 20; refine (refRow_any s hs 10 (by decide) _).mono ?_; rintro e w1 ⟨he, hB1⟩; rw [hrow] at he; subst he; replace hA := hA.trans (hB1.mono hA.size); clear hB1)
      | (go_at_call 30; clear t1; refine (headed_b s hs _).mono ?_; rintro e w1 ⟨he, rfl⟩; rw [hb] at he; subst he)
      | (go_at_call 30; clear t2; refine (headed_o s hs _).mono ?_; rintro e w1 ⟨he, rfl⟩; rw [ho] at he; subst he)
      | (go_at_call 30; refine (headed_x s hs _).mono ?_; rintro e w1 ⟨he, rfl⟩; rw [hx] at he; subst he))
    go_ret
    exact ⟨ret_bool rfl, hA⟩
  · have i0 : 0 < s.size := by omega
    have c0 : s.data.toList.head? = some s[0] := one_of s i0
    by_cases hq1 : s.data.toList = [48]
    · have hr : whole? s.data.toList = true := by rw [hq1]; rfl
      have hq : (s.toList == [48]) = true := by rw [list_is, hq1]; rfl
      rw [hr]
      clear hr hlen hq1 c0
      cases hrow : row 10 s.data.toList
      all_goals
        (go_enter Try.func18, Try.ntmps18
         go_wp2_with (go_at_call 20; refine (refRow_any s hs 10 (by decide) _).mono ?_; rintro e w1 ⟨he, hB1⟩; rw [hrow] at he; subst he; replace hA := hA.trans (hB1.mono hA.size); clear hB1)
         go_ret
         exact ⟨ret_bool rfl, hA⟩)
    · have hq : (s.toList == [48]) = false := by rw [list_is]; simpa using hq1
      have hw : whole? s.data.toList = ((row 10 s.data.toList && !decide (s[0] = 48)) || (decide (s[0] = 48) && under 8 (s.data.toList.drop 1)) || (if head? 98 66 s.data.toList then under 2 (s.data.toList.drop 2) else if head? 111 79 s.data.toList then under 8 (s.data.toList.drop 2) else head? 120 88 s.data.toList && under 16 (s.data.toList.drop 2))) := by
        unfold whole?
        have e : decide (some s[0] = some (48 : UInt8)) = decide (s[0] = 48) := by rw [Bool.eq_iff_iff]; simp
        rw [c0, decide_eq_false hq1, Bool.false_or, e]
      have HW := Lib.hid hw
      have b0 := bytes_n s[0] 48 48 rfl
      by_cases h48 : s[0] = 48
      · have d1 : (1 : Int) < s.size := by
          have : s.size ≠ 1 := fun h => hq1 (by
            have h1 : s.data.toList.length = 1 := by omega
            obtain ⟨c, hc⟩ := List.length_eq_one_iff.1 h1
            rw [hc] at c0
            simp at c0
            rw [hc, c0, h48])
          omega
        have b1 : ((s[0].toNat : Int) == 48) = true := by rw [b0]; simpa using h48
        have b2 : ((s[0].toNat : Int) != 48) = false := by rw [bne, b1]; rfl
        have HD := Lib.hid h48
        have hz1 : (s.extract 1 s.size).size ≤ 1048576 := by simp; omega
        have hz2 : (s.extract 2 s.size).size ≤ 1048576 := by simp; omega
        have HE1 := Lib.hid (extract_drop s 1)
        have HE2 := Lib.hid (extract_drop s 2)
        clear hw b0 h48 hq1 c0
        have t3 : True := trivial
        cases hu1 : under 8 (s.extract 1 s.size).data.toList with
        | true =>
          have hr : whole? s.data.toList = true := by rw [HW.out, HD.out, ← HE1.out, hu1]; simp
          rw [hr]
          clear hr hlen
          cases hrow : row 10 s.data.toList
          all_goals
            (go_enter Try.func18, Try.ntmps18
             go_wp2_with (first
               | (go_at_call 20; refine (refRow_any s hs 10 (by decide) _).mono ?_; rintro e w1 ⟨he, hB1⟩; rw [hrow] at he; subst he; replace hA := hA.trans (hB1.mono hA.size); clear hB1)
               | (go_at_call 29; clear t3; refine (under_any _ hz1 8 (by decide) _).mono ?_; rintro e w1 ⟨he, hB1⟩; rw [hu1] at he; subst he; replace hA := hA.trans (hB1.mono hA.size); clear hB1))
             go_ret
             exact ⟨ret_bool rfl, hA⟩)
        | false =>
          have hw2 : whole? s.data.toList = (if head? 98 66 s.data.toList then under 2 (s.extract 2 s.size).data.toList else if head? 111 79 s.data.toList then under 8 (s.extract 2 s.size).data.toList else head? 120 88 s.data.toList && under 16 (s.extract 2 s.size).data.toList) := by
            rw [HW.out, HD.out, ← HE1.out, hu1, ← HE2.out]; simp
          have t1 : True := trivial
          have t2 : True := trivial
          have HW2 := Lib.hid hw2
          clear hw2 hlen
          have dd : head? 98 66 s.data.toList = true ∨ head? 111 79 s.data.toList = true ∨ head? 120 88 s.data.toList = true → (2 : Int) ≤ s.size := by
            intro h
            by_cases h2 : s.data.toList.length < 2
            · rw [head_short _ _ _ h2, head_short _ _ _ h2, head_short _ _ _ h2] at h; simp at h
            · have : s.data.toList.length = s.size := by simp
              omega
          cases hb : head? 98 66 s.data.toList with
          | true =>
            have d2 := dd (.inl hb)
            clear dd
            cases hu2 : under 2 (s.extract 2 s.size).data.toList <;> cases hrow : row 10 s.data.toList
            all_goals
              (go_enter Try.func18, Try.ntmps18
               go_wp2_with (first
                 | (go_at_call 20; refine (refRow_any s hs 10 (by decide) _).mono ?_; rintro e w1 ⟨he, hB1⟩; rw [hrow] at he; subst he; replace hA := hA.trans (hB1.mono hA.size); clear hB1)
                 | (go_at_call 30; clear t1; refine (headed_b s hs _).mono ?_; rintro e w1 ⟨he, rfl⟩; rw [hb] at he; subst he)
                 | (go_at_call 29; clear t3; refine (under_any _ hz1 8 (by decide) _).mono ?_; rintro e w1 ⟨he, hB1⟩; rw [hu1] at he; subst he; replace hA := hA.trans (hB1.mono hA.size); clear hB1)
                 | (go_at_call 29; refine (under_any _ hz2 2 (by decide) _).mono ?_; rintro e w1 ⟨he, hB1⟩; rw [hu2] at he; subst he; replace hA := hA.trans (hB1.mono hA.size); clear hB1))
               go_ret
               exact ⟨ret_bool (by rw [HW2.out, hb, hu2]; rfl), hA⟩)
          | false =>
            cases ho : head? 111 79 s.data.toList with
            | true =>
              have d2 := dd (.inr (.inl ho))
              clear dd
              cases hu2 : under 8 (s.extract 2 s.size).data.toList <;> cases hrow : row 10 s.data.toList
              all_goals
                (go_enter Try.func18, Try.ntmps18
                 go_wp2_with (first
                   | (go_at_call 20; refine (refRow_any s hs 10 (by decide) _).mono ?_; rintro e w1 ⟨he, hB1⟩; rw [hrow] at he; subst he; replace hA := hA.trans (hB1.mono hA.size); clear hB1)
                   | (go_at_call 30; clear t1; refine (headed_b s hs _).mono ?_; rintro e w1 ⟨he, rfl⟩; rw [hb] at he; subst he)
                   | (go_at_call 30; clear t2; refine (headed_o s hs _).mono ?_; rintro e w1 ⟨he, rfl⟩; rw [ho] at he; subst he)
                   | (go_at_call 29; clear t3; refine (under_any _ hz1 8 (by decide) _).mono ?_; rintro e w1 ⟨he, hB1⟩; rw [hu1] at he; subst he; replace hA := hA.trans (hB1.mono hA.size); clear hB1)
                   | (go_at_call 29; refine (under_any _ hz2 8 (by decide) _).mono ?_; rintro e w1 ⟨he, hB1⟩; rw [hu2] at he; subst he; replace hA := hA.trans (hB1.mono hA.size); clear hB1))
                 go_ret
                 exact ⟨ret_bool (by rw [HW2.out, hb, ho, hu2]; rfl), hA⟩)
            | false =>
              cases hx : head? 120 88 s.data.toList with
              | true =>
                have d2 := dd (.inr (.inr hx))
                clear dd
                cases hu2 : under 16 (s.extract 2 s.size).data.toList <;> cases hrow : row 10 s.data.toList
                all_goals
                  (go_enter Try.func18, Try.ntmps18
                   go_wp2_with (first
                     | (go_at_call 20; refine (refRow_any s hs 10 (by decide) _).mono ?_; rintro e w1 ⟨he, hB1⟩; rw [hrow] at he; subst he; replace hA := hA.trans (hB1.mono hA.size); clear hB1)
                     | (go_at_call 30; clear t1; refine (headed_b s hs _).mono ?_; rintro e w1 ⟨he, rfl⟩; rw [hb] at he; subst he)
                     | (go_at_call 30; clear t2; refine (headed_o s hs _).mono ?_; rintro e w1 ⟨he, rfl⟩; rw [ho] at he; subst he)
                     | (go_at_call 30; refine (headed_x s hs _).mono ?_; rintro e w1 ⟨he, rfl⟩; rw [hx] at he; subst he)
                     | (go_at_call 29; clear t3; refine (under_any _ hz1 8 (by decide) _).mono ?_; rintro e w1 ⟨he, hB1⟩; rw [hu1] at he; subst he; replace hA := hA.trans (hB1.mono hA.size); clear hB1)
                     | (go_at_call 29; refine (under_any _ hz2 16 (by decide) _).mono ?_; rintro e w1 ⟨he, hB1⟩; rw [hu2] at he; subst he; replace hA := hA.trans (hB1.mono hA.size); clear hB1))
                   go_ret
                   exact ⟨ret_bool (by rw [HW2.out, hb, ho, hx, hu2]; rfl), hA⟩)
              | false =>
                clear dd
                cases hrow : row 10 s.data.toList
                all_goals
                  (go_enter Try.func18, Try.ntmps18
                   go_wp2_with (first
                     | (go_at_call 20; refine (refRow_any s hs 10 (by decide) _).mono ?_; rintro e w1 ⟨he, hB1⟩; rw [hrow] at he; subst he; replace hA := hA.trans (hB1.mono hA.size); clear hB1)
                     | (go_at_call 30; clear t1; refine (headed_b s hs _).mono ?_; rintro e w1 ⟨he, rfl⟩; rw [hb] at he; subst he)
                     | (go_at_call 30; clear t2; refine (headed_o s hs _).mono ?_; rintro e w1 ⟨he, rfl⟩; rw [ho] at he; subst he)
                     | (go_at_call 30; refine (headed_x s hs _).mono ?_; rintro e w1 ⟨he, rfl⟩; rw [hx] at he; subst he)
                     | (go_at_call 29; clear t3; refine (under_any _ hz1 8 (by decide) _).mono ?_; rintro e w1 ⟨he, hB1⟩; rw [hu1] at he; subst he; replace hA := hA.trans (hB1.mono hA.size); clear hB1))
                   go_ret
                   exact ⟨ret_bool (by rw [HW2.out, hb, ho, hx]; rfl), hA⟩)
      · have b1 : ((s[0].toNat : Int) == 48) = false := by rw [b0]; simpa using h48
        have b2 : ((s[0].toNat : Int) != 48) = true := by rw [bne, b1]; rfl
        have hh : ∀ a b, head? a b s.data.toList = false := fun a b => head_first (by rw [c0]; simpa using h48)
        have hb := hh 98 66
        have ho := hh 111 79
        have hx := hh 120 88
        have hr : whole? s.data.toList = row 10 s.data.toList := by
          rw [hw, hb, ho, hx, decide_eq_false h48]; simp
        clear hh hw b0 h48 hq1 c0 hlen
        have t1 : True := trivial
        have t2 : True := trivial
        have HR := Lib.hid hr
        clear hr
        cases hrow : row 10 s.data.toList
        all_goals
          (go_enter Try.func18, Try.ntmps18
           go_wp2_with (first
             | (go_at_call 20; refine (refRow_any s hs 10 (by decide) _).mono ?_; rintro e w1 ⟨he, hB1⟩; rw [hrow] at he; subst he; replace hA := hA.trans (hB1.mono hA.size); clear hB1)
             | (go_at_call 30; clear t1; refine (headed_b s hs _).mono ?_; rintro e w1 ⟨he, rfl⟩; rw [hb] at he; subst he)
             | (go_at_call 30; clear t2; refine (headed_o s hs _).mono ?_; rintro e w1 ⟨he, rfl⟩; rw [ho] at he; subst he)
             | (go_at_call 30; refine (headed_x s hs _).mono ?_; rintro e w1 ⟨he, rfl⟩; rw [hx] at he; subst he))
           all_goals (go_ret; exact ⟨ret_bool (by rw [HR.out, hrow]), hA⟩))
end Go.Proofs.Ytakbhbhikknhkaa
