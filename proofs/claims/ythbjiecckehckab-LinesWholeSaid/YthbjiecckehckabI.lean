/-
  Layer 4: contract of fixed: the document's examples.
-/
import Derived.Test.YthbjiecckehckabG
import Derived.Laws.StructEq
namespace Go.Proofs.Ythbjiecckehckab
open Go.ChangeShapes Go.WideShapes Go.ChangeAt Go.RowKit

theorem pos_eql (a b c d : Int) (w : World) : (binOp .eql 33 (.agg #[.int .i64 a, .int .i64 b]) (.agg #[.int .i64 c, .int .i64 d])).run Try.prog w = .ok (.bool (decide (a = c) && decide (b = d))) w := by
  have ht : Try.prog.underlying 33 = some (.struct (Try.prog.fieldsOf 33)) := by kernel_rfl
  have hp : Try.prog.stoodInHeld 33 = false := by kernel_rfl
  have hf : (Try.prog.fieldsOf 33).toList.map (fun f => (f.name, f.type, f.offset)) = [("Line", 3, 0), ("Col", 3, 1)] := by kernel_rfl
  rw [run_eql_struct, run_equalIn_agg _ 9999 33 _ _ ht hp]
  generalize (Try.prog.fieldsOf 33).toList = l at hf
  rcases l with _ | ⟨f1, _ | ⟨f2, _ | ⟨f3, l⟩⟩⟩ <;> simp at hf
  obtain ⟨⟨n1, t1, o1⟩, n2, t2, o2⟩ := hf
  have u3 : Try.prog.underlying 3 = some (.int .i64) := by kernel_rfl
  simp [go_sem, n1, t1, o1, n2, t2, o2, u3]
  by_cases h1 : a = c <;> by_cases h2 : b = d <;> simp [h1, h2]
theorem pos_guard (b : BinOp) (u v : Operand) (xs ys : Array Value) (w : World) (hb : b = .eql ∨ b = .neq) : (eqGuard b 33 u v (.agg xs) (.agg ys)).run Try.prog w = .ok () w := by
  rcases hb with rfl | rfl
  · exact run_eqGuard_agg w .eql 33 u v xs ys (by kernel_rfl)
  · exact run_eqGuard_agg w .neq 33 u v xs ys (by kernel_rfl)
theorem pos_more' {B : Nat} {w1 w2 : World} {p : Addr} {v : Value} (h : w1.cell? p = some v) (hB : Below w1.heap.size w1 w2) (_ : B ≤ w1.heap.size) : w2.cell? p = some v := by
  rw [hB.cell (p := p) (cell_lt h)]; exact h

def ex : ByteArray := ⟨#[97, 10, 98, 99, 10]⟩
theorem ex_may : mayOff ex 2 3 := by unfold mayOff; decide +kernel
theorem ex_at (w : World) : Calls Try.prog 17 #[.string ⟨#[97, 10, 98, 99, 10]⟩, .int .i64 5] w fun e w' => e = .returned (.tuple #[.agg #[.int .i64 3, .int .i64 1], .int .i64 0]) ∧ Below w.heap.size w w' := by
  have h := at_any ex (by decide +kernel) 5 w
  rw [show atLine ex 5 = 3 by decide +kernel, show atCol ex 5 = 1 by decide +kernel, show atErr ex 5 = 0 by decide +kernel] at h
  exact h
theorem ex_off (w : World) : Calls Try.prog 19 #[.string ⟨#[97, 10, 98, 99, 10]⟩, .agg #[.int .i64 2, .int .i64 3]] w fun e w' => e = .returned (.tuple #[.int .i64 4, .int .i64 0]) ∧ Below w.heap.size w w' := by
  have h := off_any ex (by decide +kernel) 2 3 w
  obtain ⟨e1, e2⟩ := off_yes ex_may
  rw [e1, e2, show from_ ex ((2 : Int).toNat - 1) = 2 by decide +kernel] at h
  exact h
theorem ex_line (w : World) : Calls Try.prog 15 #[.string ⟨#[97, 10, 98, 99, 10]⟩, .int .i64 2] w fun e w' => e = .returned (.tuple #[.string ⟨#[98, 99]⟩, .int .i64 0]) ∧ Below w.heap.size w w' := by
  have h := line_any ex (by decide +kernel) 2 w
  rw [show lineText ex 2 = ⟨#[98, 99]⟩ by decide +kernel, show lineErr ex 2 = 0 by decide +kernel] at h
  exact h
theorem ex_count (w : World) : Calls Try.prog 14 #[.string ⟨#[97, 10, 98, 99, 10]⟩] w fun e w' => e = .returned (.int .i64 3) ∧ w' = w := by
  have h := count_any ex (by decide +kernel) w
  rw [show ex.data.toList.count 10 + 1 = 3 by decide +kernel] at h
  exact h

set_option maxHeartbeats 2000000 in
theorem fixed_any (w : World) : Calls Try.prog 11 #[] w fun e w' => e = .returned (.bool true) ∧ Below w.heap.size w w' := by
  have heq := fun w => pos_eql 3 1 3 1 w
  have hgd := fun u v xs ys w => pos_guard .eql u v xs ys w (.inl rfl)
  go_enter Try.func11, Try.ntmps11
  go_wp2_with (first
    | (go_at_call 17; refine (ex_at _).mono ?_; rintro e w1 ⟨rfl, hB1⟩)
    | (go_at_call 19; refine (ex_off _).mono ?_; rintro e w2 ⟨rfl, hB2⟩; obtain ⟨p0, p1, hB3⟩ := pos_cells hB2; clear hB2)
    | (go_at_call 15; refine (ex_line _).mono ?_; rintro e w3 ⟨rfl, hB4⟩; have q0 := pos_more' p0 hB4 (Nat.le_refl _); have q1 := pos_more' p1 hB4 (Nat.le_refl _))
    | (go_at_call 14; refine (ex_count _).mono ?_; rintro e w4 ⟨rfl, h⟩; subst w4))
  go_ret
  exact ⟨rfl, hB1.trans ((hB3.mono hB1.size).trans (hB4.mono (Nat.le_trans hB1.size hB3.size)))⟩
end Go.Proofs.Ythbjiecckehckab
