/-
  Layer 6: contract of the document's small.
-/
import Derived.Test.YtpbkdgbmnffooaaM
namespace Go.Proofs.Ytpbkdgbmnffooaa
open Go.ChangeShapes Go.WideShapes Go.ChangeAt Go.RowKit

/-- what a number below 256 says -/
def smallOf (n : Nat) (m : UInt8) : List UInt8 := if m = 34 then [UInt8.ofNat n] else form n
theorem docsmall_any (n : Nat) (hn : n ≤ 255) (m : UInt8) (w : World) :
    Calls Try.prog 43 #[.int .i64 n, .int .u8 m.toNat] w fun e w' => e = .returned (.string ⟨(smallOf n m).toArray⟩) ∧ Below w.heap.size w w' := by
  have b34 := bytes_n m 34 34 rfl
  by_cases h34 : m = 34
  · have hr : smallOf n m = [UInt8.ofNat n] := by unfold smallOf; rw [if_pos h34]
    rw [decide_eq_true h34] at b34
    have hcv := conv_new w [(n : Int)] _ 1 rfl rfl
    simp only [List.map_cons, List.map_nil, Int.toNat_natCast] at hcv
    rw [hr]
    clear hr h34
    go_enter Try.func43, Try.ntmps43
    go_wp2
    go_ret
    exact ⟨rfl, (Below.refl _ w).alloc (Nat.le_refl _) _⟩
  · have hr : smallOf n m = form n := by unfold smallOf; rw [if_neg h34]
    rw [decide_eq_false h34] at b34
    rw [hr]
    clear hr h34
    go_enter Try.func43, Try.ntmps43
    go_wp2_with (go_at_call 17; refine (rform_any _ _).mono ?_; rintro e w1 ⟨rfl, hB⟩)
    go_ret
    exact ⟨rfl, hB⟩
end Go.Proofs.Ytpbkdgbmnffooaa
