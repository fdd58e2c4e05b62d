/-
  The statement ClassApart walked.
-/
import Derived.Test.YtmlaefdfpekhcaaN
namespace Go.Proofs.Ytmlaefdfpekhcaa
open Go.ChangeShapes Go.WideShapes Go.ChangeAt Go.RowKit

/-- no range of l meets one of m -/
def disjoint (l m : List (Int × Int)) : Bool := l.all fun x => m.all fun y => decide (y.2 < x.1) || decide (x.2 < y.1)
theorem inside_mem : ∀ (l : List (Int × Int)) (r : Int), inside l r = true → ∃ x ∈ l, x.1 ≤ r ∧ r ≤ x.2
  | [], _, h => by simp [inside] at h
  | x :: l, r, h => by
    simp only [inside, Bool.or_eq_true, decide_eq_true_eq] at h
    rcases h with h | h
    · exact ⟨x, by simp, h⟩
    · obtain ⟨y, hy, hr⟩ := inside_mem l r h
      exact ⟨y, by simp [hy], hr⟩
theorem disjoint_no {l m : List (Int × Int)} (h : disjoint l m = true) {r : Int} (hl : inside l r = true) : inside m r = false := by
  cases hm : inside m r with
  | false => rfl
  | true =>
    obtain ⟨x, hx, hxr⟩ := inside_mem l r hl
    obtain ⟨y, hy, hyr⟩ := inside_mem m r hm
    have := List.all_eq_true.1 (List.all_eq_true.1 h x hx) y hy
    simp only [Bool.or_eq_true, decide_eq_true_eq] at this
    omega
def blanks : List (Int × Int) := [(9, 9), (10, 10), (13, 13), (32, 32)]
def isBlank (r : Int) : Bool := decide (r = 9 ∨ r = 10 ∨ r = 13 ∨ r = 32)
theorem blank_inside (r : Int) : isBlank r = inside blanks r := by
  unfold isBlank
  rw [Bool.eq_iff_iff]
  simp [inside, blanks]
  omega
theorem letter_no_digit {r : Int} (h : inside letters r = true) : inside digits r = false := disjoint_no (by decide +kernel) h
theorem letter_no_blank {r : Int} (h : inside letters r = true) : isBlank r = false := by rw [blank_inside]; exact disjoint_no (by decide +kernel) h
theorem digit_no_blank {r : Int} (h : inside digits r = true) : isBlank r = false := by rw [blank_inside]; exact disjoint_no (by decide +kernel) h
theorem hex_lt (r : Int) : hexOf r < 16 := by
  unfold hexOf; split
  · omega
  · split
    · omega
    · split <;> omega
theorem hex_blank {r : Int} (h : 0 ≤ hexOf r) : isBlank r = false := by
  unfold isBlank
  rw [decide_eq_false_iff_not]
  unfold hexOf at h
  split at h
  · omega
  · split at h
    · omega
    · split at h <;> omega
theorem apart1 (r x : Int) (HL : Hid (inside letters r = true)) (HD : Hid (inside digits r = false)) (HK : Hid (decide (r = 9 ∨ r = 10 ∨ r = 13 ∨ r = 32) = false)) (HX : Hid (hexOf r = x)) (_hx1 : x < 16) (_hx0 : 0 ≤ x) (w : World) :
    Calls Try.prog 12 #[.int .i32 r] w fun e w' => e = .returned (.bool true) ∧ Below w.heap.size w w' := by
  go_enter Try.func12, Try.ntmps12
  go_wp2_with (first
    | (go_at_call 27; refine (fixed2_any _).mono ?_; rintro e w1 ⟨rfl, hB1⟩)
    | (go_at_call 28; refine (letter_any r _).mono ?_; rintro e w2 ⟨rfl, hB2⟩; rw [HL.out])
    | (go_at_call 30; refine (digit_any r _).mono ?_; rintro e w4 ⟨rfl, hB4⟩; rw [HD.out])
    | (go_at_call 32; refine (blank_any r _).mono ?_; rintro e w6 ⟨rfl, rfl⟩; rw [HK.out])
    | (go_at_call 34; refine (base_any r _).mono ?_; rintro e w8 ⟨rfl, rfl⟩; rw [HX.out]))
  go_ret
  exact ⟨rfl, below_then (below_then hB2 hB4) hB1⟩
theorem apart2 (r x : Int) (HL : Hid (inside letters r = true)) (HD : Hid (inside digits r = false)) (HK : Hid (decide (r = 9 ∨ r = 10 ∨ r = 13 ∨ r = 32) = false)) (HX : Hid (hexOf r = x)) (_hx1 : x < 16) (_hx0 : x < 0) (w : World) :
    Calls Try.prog 12 #[.int .i32 r] w fun e w' => e = .returned (.bool true) ∧ Below w.heap.size w w' := by
  go_enter Try.func12, Try.ntmps12
  go_wp2_with (first
    | (go_at_call 27; refine (fixed2_any _).mono ?_; rintro e w1 ⟨rfl, hB1⟩)
    | (go_at_call 28; refine (letter_any r _).mono ?_; rintro e w2 ⟨rfl, hB2⟩; rw [HL.out])
    | (go_at_call 30; refine (digit_any r _).mono ?_; rintro e w4 ⟨rfl, hB4⟩; rw [HD.out])
    | (go_at_call 32; refine (blank_any r _).mono ?_; rintro e w6 ⟨rfl, rfl⟩; rw [HK.out])
    | (go_at_call 34; refine (base_any r _).mono ?_; rintro e w8 ⟨rfl, rfl⟩; rw [HX.out]))
  go_ret
  exact ⟨rfl, below_then (below_then hB2 hB4) hB1⟩
theorem apart3 (r x : Int) (HL : Hid (inside letters r = false)) (HD : Hid (inside digits r = true)) (HK : Hid (decide (r = 9 ∨ r = 10 ∨ r = 13 ∨ r = 32) = false)) (HX : Hid (hexOf r = x)) (_hx1 : x < 16) (_hx0 : 0 ≤ x) (w : World) :
    Calls Try.prog 12 #[.int .i32 r] w fun e w' => e = .returned (.bool true) ∧ Below w.heap.size w w' := by
  go_enter Try.func12, Try.ntmps12
  go_wp2_with (first
    | (go_at_call 27; refine (fixed2_any _).mono ?_; rintro e w1 ⟨rfl, hB1⟩)
    | (go_at_call 28; refine (letter_any r _).mono ?_; rintro e w2 ⟨rfl, hB2⟩; rw [HL.out])
    | (go_at_call 30; refine (digit_any r _).mono ?_; rintro e w4 ⟨rfl, hB4⟩; rw [HD.out])
    | (go_at_call 32; refine (blank_any r _).mono ?_; rintro e w6 ⟨rfl, rfl⟩; rw [HK.out])
    | (go_at_call 34; refine (base_any r _).mono ?_; rintro e w8 ⟨rfl, rfl⟩; rw [HX.out]))
  go_ret
  exact ⟨rfl, below_then (below_then hB2 hB4) hB1⟩
theorem apart4 (r x : Int) (HL : Hid (inside letters r = false)) (HD : Hid (inside digits r = true)) (HK : Hid (decide (r = 9 ∨ r = 10 ∨ r = 13 ∨ r = 32) = false)) (HX : Hid (hexOf r = x)) (_hx1 : x < 16) (_hx0 : x < 0) (w : World) :
    Calls Try.prog 12 #[.int .i32 r] w fun e w' => e = .returned (.bool true) ∧ Below w.heap.size w w' := by
  go_enter Try.func12, Try.ntmps12
  go_wp2_with (first
    | (go_at_call 27; refine (fixed2_any _).mono ?_; rintro e w1 ⟨rfl, hB1⟩)
    | (go_at_call 28; refine (letter_any r _).mono ?_; rintro e w2 ⟨rfl, hB2⟩; rw [HL.out])
    | (go_at_call 30; refine (digit_any r _).mono ?_; rintro e w4 ⟨rfl, hB4⟩; rw [HD.out])
    | (go_at_call 32; refine (blank_any r _).mono ?_; rintro e w6 ⟨rfl, rfl⟩; rw [HK.out])
    | (go_at_call 34; refine (base_any r _).mono ?_; rintro e w8 ⟨rfl, rfl⟩; rw [HX.out]))
  go_ret
  exact ⟨rfl, below_then (below_then hB2 hB4) hB1⟩
theorem apart5 (r x : Int) (HL : Hid (inside letters r = false)) (HD : Hid (inside digits r = false)) (HK : Hid (decide (r = 9 ∨ r = 10 ∨ r = 13 ∨ r = 32) = true)) (HX : Hid (hexOf r = x)) (_hx1 : x < 16) (_hx0 : x < 0) (w : World) :
    Calls Try.prog 12 #[.int .i32 r] w fun e w' => e = .returned (.bool true) ∧ Below w.heap.size w w' := by
  go_enter Try.func12, Try.ntmps12
  go_wp2_with (first
    | (go_at_call 27; refine (fixed2_any _).mono ?_; rintro e w1 ⟨rfl, hB1⟩)
    | (go_at_call 28; refine (letter_any r _).mono ?_; rintro e w2 ⟨rfl, hB2⟩; rw [HL.out])
    | (go_at_call 30; refine (digit_any r _).mono ?_; rintro e w4 ⟨rfl, hB4⟩; rw [HD.out])
    | (go_at_call 32; refine (blank_any r _).mono ?_; rintro e w6 ⟨rfl, rfl⟩; rw [HK.out])
    | (go_at_call 34; refine (base_any r _).mono ?_; rintro e w8 ⟨rfl, rfl⟩; rw [HX.out]))
  go_ret
  exact ⟨rfl, below_then (below_then hB2 hB4) hB1⟩
theorem apart6 (r x : Int) (HL : Hid (inside letters r = false)) (HD : Hid (inside digits r = false)) (HK : Hid (decide (r = 9 ∨ r = 10 ∨ r = 13 ∨ r = 32) = false)) (HX : Hid (hexOf r = x)) (_hx1 : x < 16) (_hx0 : 0 ≤ x) (w : World) :
    Calls Try.prog 12 #[.int .i32 r] w fun e w' => e = .returned (.bool true) ∧ Below w.heap.size w w' := by
  go_enter Try.func12, Try.ntmps12
  go_wp2_with (first
    | (go_at_call 27; refine (fixed2_any _).mono ?_; rintro e w1 ⟨rfl, hB1⟩)
    | (go_at_call 28; refine (letter_any r _).mono ?_; rintro e w2 ⟨rfl, hB2⟩; rw [HL.out])
    | (go_at_call 30; refine (digit_any r _).mono ?_; rintro e w4 ⟨rfl, hB4⟩; rw [HD.out])
    | (go_at_call 32; refine (blank_any r _).mono ?_; rintro e w6 ⟨rfl, rfl⟩; rw [HK.out])
    | (go_at_call 34; refine (base_any r _).mono ?_; rintro e w8 ⟨rfl, rfl⟩; rw [HX.out]))
  go_ret
  exact ⟨rfl, below_then (below_then hB2 hB4) hB1⟩
theorem apart7 (r x : Int) (HL : Hid (inside letters r = false)) (HD : Hid (inside digits r = false)) (HK : Hid (decide (r = 9 ∨ r = 10 ∨ r = 13 ∨ r = 32) = false)) (HX : Hid (hexOf r = x)) (_hx1 : x < 16) (_hx0 : x < 0) (w : World) :
    Calls Try.prog 12 #[.int .i32 r] w fun e w' => e = .returned (.bool true) ∧ Below w.heap.size w w' := by
  go_enter Try.func12, Try.ntmps12
  go_wp2_with (first
    | (go_at_call 27; refine (fixed2_any _).mono ?_; rintro e w1 ⟨rfl, hB1⟩)
    | (go_at_call 28; refine (letter_any r _).mono ?_; rintro e w2 ⟨rfl, hB2⟩; rw [HL.out])
    | (go_at_call 30; refine (digit_any r _).mono ?_; rintro e w4 ⟨rfl, hB4⟩; rw [HD.out])
    | (go_at_call 32; refine (blank_any r _).mono ?_; rintro e w6 ⟨rfl, rfl⟩; rw [HK.out])
    | (go_at_call 34; refine (base_any r _).mono ?_; rintro e w8 ⟨rfl, rfl⟩; rw [HX.out]))
  go_ret
  exact ⟨rfl, below_then (below_then hB2 hB4) hB1⟩
theorem classApart_walk (r : Int) (_w0 : (Lit.int .i32 r).wf = true) (w : World) :
    Calls Try.prog 12 #[.int .i32 r] w fun e w' => e = .returned (.bool true) ∧ Below w.heap.size w w' := by
  have hx := hex_lt r
  cases hl : inside letters r with
  | true =>
    have hd := letter_no_digit hl
    have hk := letter_no_blank hl
    by_cases h0 : 0 ≤ hexOf r
    · exact apart1 r _ hl hd hk rfl hx h0 w
    · exact apart2 r _ hl hd hk rfl hx (by omega) w
  | false =>
    cases hd : inside digits r with
    | true =>
      have hk := digit_no_blank hd
      by_cases h0 : 0 ≤ hexOf r
      · exact apart3 r _ hl hd hk rfl hx h0 w
      · exact apart4 r _ hl hd hk rfl hx (by omega) w
    | false =>
      cases hk : isBlank r with
      | true =>
        by_cases h0 : 0 ≤ hexOf r
        · have := hex_blank h0
          rw [this] at hk; cases hk
        · exact apart5 r _ hl hd hk rfl hx (by omega) w
      | false =>
        by_cases h0 : 0 ≤ hexOf r
        · exact apart6 r _ hl hd hk rfl hx h0 w
        · exact apart7 r _ hl hd hk rfl hx (by omega) w
end Go.Proofs.Ytmlaefdfpekhcaa
