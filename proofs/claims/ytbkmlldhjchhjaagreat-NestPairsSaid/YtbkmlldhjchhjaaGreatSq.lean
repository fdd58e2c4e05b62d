/-
  Layer 7: contract of the law's fixed answers.
-/
import Derived.Test.YtbkmlldhjchhjaaGreatSp
namespace Go.Proofs.YtbkmlldhjchhjaaGreat
open Go.ChangeShapes Go.WideShapes Go.ChangeAt Go.RowKit

theorem below_chain {a b c : World} (h : Below a.heap.size a b) (k : Below b.heap.size b c) : Below a.heap.size a c := h.trans (k.mono h.size)
theorem lit1 : allAns [120, 58, 61, 49, 46, 53, 47, 47, 99] = ([(1, 0, 1), (8, 1, 3), (4, 3, 6), (11, 6, 9)], 0, 0) := by kernel_rfl
theorem lit2 : allAns [97, 32, 47, 42, 32, 98] = ([], 4, 2) := by kernel_rfl
theorem lit3 : oneAns [97, 38, 94, 61, 98] 1 = (#[.int .u8 8, .int .i64 1, .int .i64 4], 0) := by kernel_rfl
end Go.Proofs.YtbkmlldhjchhjaaGreat
