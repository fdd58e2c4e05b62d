/-
  Layer 7: contracts of the laws ScanCleans, ScanOnes, ScanAlls.
-/
import Derived.Test.YtbkmlldhjchhjaaGreatSr
namespace Go.Proofs.YtbkmlldhjchhjaaGreat
open Go.ChangeShapes Go.WideShapes Go.ChangeAt Go.RowKit

theorem tok_eq (x y z : Nat) (w : World) : (binOp .eql 40 (.agg #[.int .u8 x, .int .i64 y, .int .i64 z]) (.agg #[.int .u8 x, .int .i64 y, .int .i64 z])).run Tryz.prog w = .ok (.bool true) w := by
  have ht : Tryz.prog.underlying 40 = some (.struct (Tryz.prog.fieldsOf 40)) := by kernel_rfl
  have hp : Tryz.prog.stoodInHeld 40 = false := by kernel_rfl
  have hf : (Tryz.prog.fieldsOf 40).toList.map (fun f => (f.name, f.type, f.offset)) = [("Kind", 5, 0), ("From", 3, 1), ("To", 3, 2)] := by kernel_rfl
  rw [run_eql_struct, run_equalIn_agg _ 9999 40 _ _ ht hp]
  generalize (Tryz.prog.fieldsOf 40).toList = l at hf
  rcases l with _ | ⟨f1, _ | ⟨f2, _ | ⟨f3, _ | ⟨f4, l⟩⟩⟩⟩ <;> simp at hf
  obtain ⟨⟨n1, t1, o1⟩, ⟨n2, t2, o2⟩, n3, t3, o3⟩ := hf
  have u3 : Tryz.prog.underlying 3 = some (.int .i64) := by kernel_rfl
  have u5 : Tryz.prog.underlying 5 = some (.int .u8) := by kernel_rfl
  simp [go_sem, n1, t1, o1, n2, t2, o2, n3, t3, o3, u3, u5]
theorem tok_guard2 (u v : Operand) (xs ys : Array Value) (w : World) : (eqGuard .eql 40 u v (.agg xs) (.agg ys)).run Tryz.prog w = .ok () w :=
  run_eqGuard_agg w .eql 40 u v xs ys (by kernel_rfl)
theorem fault_eq (x y : Int) (w : World) : (binOp .eql 26 (.agg #[.int .i64 x, .int .i64 y]) (.agg #[.int .i64 x, .int .i64 y])).run Tryz.prog w = .ok (.bool true) w := by
  have ht : Tryz.prog.underlying 26 = some (.struct (Tryz.prog.fieldsOf 26)) := by kernel_rfl
  have hp : Tryz.prog.stoodInHeld 26 = false := by kernel_rfl
  have hf : (Tryz.prog.fieldsOf 26).toList.map (fun f => (f.name, f.type, f.offset)) = [("Err", 24, 0), ("At", 3, 1)] := by kernel_rfl
  rw [run_eql_struct, run_equalIn_agg _ 9999 26 _ _ ht hp]
  generalize (Tryz.prog.fieldsOf 26).toList = l at hf
  rcases l with _ | ⟨f1, _ | ⟨f2, _ | ⟨f3, l⟩⟩⟩ <;> simp at hf
  obtain ⟨⟨n1, t1, o1⟩, n2, t2, o2⟩ := hf
  have u3 : Tryz.prog.underlying 3 = some (.int .i64) := by kernel_rfl
  have u5 : Tryz.prog.underlying 24 = some (.int .i64) := by kernel_rfl
  simp [go_sem, n1, t1, o1, n2, t2, o2, u3, u5]
theorem fault_guard (u v : Operand) (xs ys : Array Value) (w : World) : (eqGuard .eql 26 u v (.agg xs) (.agg ys)).run Tryz.prog w = .ok () w :=
  run_eqGuard_agg w .eql 26 u v xs ys (by kernel_rfl)
theorem oneAns_row (l : List UInt8) (x : Int) : ∃ p q r : Nat, (oneAns l x).1 = #[.int .u8 p, .int .i64 q, .int .i64 r] := by
  unfold oneAns
  split
  · exact ⟨0, 0, 0, rfl⟩
  split
  · exact ⟨0, 0, 0, rfl⟩
  unfold tokRow
  dsimp only
  split
  · exact ⟨0, 0, 0, rfl⟩
  · exact ⟨_, _, _, rfl⟩
end Go.Proofs.YtbkmlldhjchhjaaGreat
