/-
  Layer 7: contract of the law ScanLong.
-/
import Derived.Test.YtbkmlldhjchhjaaGreatSv
import Derived.Test.YtbkmlldhjchhjaaGreatTc
import Derived.Laws.BytesString
import Derived.Laws.Cells
import Derived.Laws.MakeOwn
namespace Go.Proofs.YtbkmlldhjchhjaaGreat
open Go.ChangeShapes Go.WideShapes Go.ChangeAt Go.RowKit

theorem tok_eqI (x y z : Int) (w : World) : (binOp .eql 40 (.agg #[.int .u8 x, .int .i64 y, .int .i64 z]) (.agg #[.int .u8 x, .int .i64 y, .int .i64 z])).run Tryz.prog w = .ok (.bool true) w := by
  have ht : Tryz.prog.underlying 40 = some (.struct (Tryz.prog.fieldsOf 40)) := by kernel_rfl
  have hp : Tryz.prog.stoodInHeld 40 = false := by kernel_rfl
  have hf : (Tryz.prog.fieldsOf 40).toList.map (fun f => (f.name, f.type, f.offset)) = [("Kind", 5, 0), ("From", 3, 1), ("To", 3, 2)] := by kernel_rfl
  rw [run_eql_struct, run_equalIn_agg _ 9999 40 _ _ ht hp]
  generalize (Tryz.prog.fieldsOf 40).toList = l at hf
  rcases l with _ | ⟨f1, _ | ⟨f2, _ | ⟨f3, _ | ⟨f4, l⟩⟩⟩⟩ <;> simp at hf
  obtain ⟨⟨n1, t1, o1⟩, ⟨n2, t2, o2⟩, n3, t3, o3⟩ := hf
  have u3 : Tryz.prog.underlying 3 = some (.int .i64) := by kernel_rfl
  have u5 : Tryz.prog.underlying 5 = some (.int .u8) := by kernel_rfl
  simp [go_sem, n1, t1, o1, n2, t2, o2, n3, t3, o3, u3, u5]
end Go.Proofs.YtbkmlldhjchhjaaGreat
