/-
  The document's examples of layer 2, and the statements ClassTells and ClassApart walked.
-/
import Derived.Test.YtmlaefdfpekhcaaL
import Derived.Test.YtmlaefdfpekhcaaG
import Derived.Test.YtmlaefdfpekhcaaJ
namespace Go.Proofs.Ytmlaefdfpekhcaa
open Go.ChangeShapes Go.WideShapes Go.ChangeAt Go.RowKit

theorem ex_l1 (w : World) : Calls Try.prog 28 #[.int .i32 65] w fun e w' => e = .returned (.bool true) ∧ Below w.heap.size w w' := by
  have h := letter_any 65 w
  rw [show inside letters 65 = true by decide +kernel] at h; exact h
theorem ex_l2 (w : World) : Calls Try.prog 28 #[.int .i32 945] w fun e w' => e = .returned (.bool true) ∧ Below w.heap.size w w' := by
  have h := letter_any 945 w
  rw [show inside letters 945 = true by decide +kernel] at h; exact h
theorem ex_l3 (w : World) : Calls Try.prog 28 #[.int .i32 215] w fun e w' => e = .returned (.bool false) ∧ Below w.heap.size w w' := by
  have h := letter_any 215 w
  rw [show inside letters 215 = false by decide +kernel] at h; exact h
theorem ex_d (w : World) : Calls Try.prog 30 #[.int .i32 1641] w fun e w' => e = .returned (.bool true) ∧ Below w.heap.size w w' := by
  have h := digit_any 1641 w
  rw [show inside digits 1641 = true by decide +kernel] at h; exact h
theorem ex_b (w : World) : Calls Try.prog 34 #[.int .i32 102] w fun e w' => e = .returned (.int .i64 15) ∧ w = w' := base_any 102 w
theorem ex_w (w : World) : Calls Try.prog 38 #[.string ⟨#[114, 97, 110, 103, 101]⟩] w fun e w' => e = .returned (.bool true) ∧ w = w' := by
  have h := word_any ⟨#[114, 97, 110, 103, 101]⟩ w
  rw [show isWord (⟨#[114, 97, 110, 103, 101]⟩ : ByteArray).data.toList = true by decide +kernel] at h; exact h
theorem ex_n1 (w : World) : Calls Try.prog 36 #[.string ⟨#[114, 97, 110, 103, 101]⟩] w fun e w' => e = .returned (.bool false) ∧ Below w.heap.size w w' := by
  have h := name_any ⟨#[114, 97, 110, 103, 101]⟩ w (by decide)
  rw [show isName (⟨#[114, 97, 110, 103, 101]⟩ : ByteArray).data.toList = false by decide +kernel] at h; exact h
theorem ex_n2 (w : World) : Calls Try.prog 36 #[.string ⟨#[120, 49]⟩] w fun e w' => e = .returned (.bool true) ∧ Below w.heap.size w w' := by
  have h := name_any ⟨#[120, 49]⟩ w (by decide)
  rw [show isName (⟨#[120, 49]⟩ : ByteArray).data.toList = true by decide +kernel] at h; exact h
theorem below_then {a b c : World} (h : Below a.heap.size a b) (k : Below b.heap.size b c) : Below a.heap.size a c := h.trans (k.mono h.size)
set_option maxHeartbeats 1000000 in
theorem fixed2_any (w : World) : Calls Try.prog 27 #[] w fun e w' => e = .returned (.bool true) ∧ Below w.heap.size w w' := by
  go_enter Try.func27, Try.ntmps27
  go_wp2_with (first
    | (go_at_call 28; (with_reducible refine (ex_l1 _).mono ?_); rintro e w1 ⟨rfl, hB1⟩)
    | (go_at_call 28; (with_reducible refine (ex_l2 _).mono ?_); rintro e w2 ⟨rfl, hB2⟩)
    | (go_at_call 28; (with_reducible refine (ex_l3 _).mono ?_); rintro e w3 ⟨rfl, hB3⟩)
    | (go_at_call 30; (with_reducible refine (ex_d _).mono ?_); rintro e w4 ⟨rfl, hB4⟩)
    | (go_at_call 34; (with_reducible refine (ex_b _).mono ?_); rintro e w5 ⟨rfl, rfl⟩)
    | (go_at_call 38; (with_reducible refine (ex_w _).mono ?_); rintro e w6 ⟨rfl, rfl⟩)
    | (go_at_call 36; (with_reducible refine (ex_n1 _).mono ?_); rintro e w7 ⟨rfl, hB7⟩)
    | (go_at_call 36; (with_reducible refine (ex_n2 _).mono ?_); rintro e w8 ⟨rfl, hB8⟩))
  go_ret
  exact ⟨rfl, below_then (below_then (below_then (below_then (below_then hB1 hB2) hB3) hB4) hB7) hB8⟩

set_option maxHeartbeats 1000000 in
theorem classTells_walk (r : Int) (w0 : (Lit.int .i32 r).wf = true) (w : World) :
    Calls Try.prog 10 #[.int .i32 r] w fun e w' => e = .returned (.bool true) ∧ Below w.heap.size w w' := by
  obtain ⟨b1, b2⟩ := bounds_i32 w0
  clear w0
  go_enter Try.func10, Try.ntmps10
  go_wp2_with (first
    | (go_at_call 27; refine (fixed2_any _).mono ?_; rintro e w1 ⟨rfl, hB1⟩)
    | (go_at_call 28; refine (letter_any r _).mono ?_; rintro e w2 ⟨rfl, hB2⟩)
    | (go_at_call 29; refine (rletter_any r _).mono ?_; rintro e w3 ⟨rfl, hB3⟩)
    | (go_at_call 30; refine (digit_any r _).mono ?_; rintro e w4 ⟨rfl, hB4⟩)
    | (go_at_call 31; refine (rdigit_any r _).mono ?_; rintro e w5 ⟨rfl, hB5⟩)
    | (go_at_call 32; refine (blank_any r _).mono ?_; rintro e w6 ⟨rfl, rfl⟩)
    | (go_at_call 33; refine (rblank_any r _).mono ?_; rintro e w7 ⟨rfl, rfl⟩)
    | (go_at_call 34; refine (base_any r _).mono ?_; rintro e w8 ⟨rfl, rfl⟩)
    | (go_at_call 35; refine (rbase_any r _).mono ?_; rintro e w9 ⟨rfl, rfl⟩))
  go_ret
  exact ⟨rfl, below_then (below_then (below_then (below_then hB1 hB2) hB3) hB4) hB5⟩
end Go.Proofs.Ytmlaefdfpekhcaa
