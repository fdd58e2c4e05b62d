/-
  Layer 5: contracts of number.inRun and of the document's digit and headed.
-/
import Derived.Test.YtakbhbhikknhkaaA
namespace Go.Proofs.Ytakbhbhikknhkaa
open Go.ChangeShapes Go.WideShapes Go.ChangeAt Go.RowKit

set_option maxHeartbeats 1000000 in
theorem inRun_any (b : UInt8) (w : World) :
    Calls Try.prog 37 #[.int .u8 b.toNat] w fun e w' => e = .returned (.bool (tail? b)) ∧ w' = w := by
  unfold tail?
  generalize b.toNat = n
  go_enter Try.func37, Try.ntmps37
  go_wp2
  all_goals (go_ret; refine ⟨ret_bool ?_, rfl⟩)
  all_goals (rw [Bool.eq_iff_iff]; simp; omega)
end Go.Proofs.Ytakbhbhikknhkaa
