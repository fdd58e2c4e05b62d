/-
  Layer 7: contract of the law ScanWhole.
-/
import Derived.Test.YtbkmlldhjchhjaaGreatSz
import Derived.Deep.RegionHeld3
import Derived.Deep.CutRange
import Derived.Outline
namespace Go.Proofs.YtbkmlldhjchhjaaGreat
open Go.ChangeShapes Go.WideShapes Go.ChangeAt Go.RowKit

theorem fault_neq (x y : Int) (w : World) : (binOp .neq 26 (.agg #[.int .i64 x, .int .i64 y]) (.agg #[.int .i64 0, .int .i64 0])).run Tryz.prog w = .ok (.bool (!(decide (x = 0) && decide (y = 0)))) w := by
  have ht : Tryz.prog.underlying 26 = some (.struct (Tryz.prog.fieldsOf 26)) := by kernel_rfl
  have hp : Tryz.prog.stoodInHeld 26 = false := by kernel_rfl
  have hf : (Tryz.prog.fieldsOf 26).toList.map (fun f => (f.name, f.type, f.offset)) = [("Err", 24, 0), ("At", 3, 1)] := by kernel_rfl
  rw [run_neq_struct, run_equalIn_agg _ 9999 26 _ _ ht hp]
  generalize (Tryz.prog.fieldsOf 26).toList = l at hf
  rcases l with _ | ⟨f1, _ | ⟨f2, _ | ⟨f3, l⟩⟩⟩ <;> simp at hf
  obtain ⟨⟨n1, t1, o1⟩, n2, t2, o2⟩ := hf
  have u3 : Tryz.prog.underlying 3 = some (.int .i64) := by kernel_rfl
  have u5 : Tryz.prog.underlying 24 = some (.int .i64) := by kernel_rfl
  by_cases hx : x = 0 <;> by_cases hy : y = 0 <;> simp [go_sem, n1, t1, o1, n2, t2, o2, u3, u5, hx, hy]
theorem fault_ngd (u v : Operand) (xs ys : Array Value) (w : World) : (eqGuard .neq 26 u v (.agg xs) (.agg ys)).run Tryz.prog w = .ok () w :=
  run_eqGuard_agg w .neq 26 u v xs ys (by kernel_rfl)
theorem all_cases (l : List UInt8) : (∃ f g : Int, allAns l = ([], f, g) ∧ f ≠ 0 ∧ 0 ≤ g ∧ g ≤ l.length) ∨ (∃ T, allAns l = (T, 0, 0) ∧ l.length ≤ 65536 ∧ Tiles l 0 T) := by
  unfold allAns
  by_cases h1 : 65536 < l.length
  · rw [if_pos h1]; exact .inl ⟨2, 0, rfl, by decide, by omega, by omega⟩
  rw [if_neg h1]
  by_cases h2 : 0 ≤ cleanAt l l.length 0
  · rw [if_pos h2]
    refine .inl ⟨3, _, rfl, by decide, h2, ?_⟩
    have : ∀ f p, p ≤ l.length → cleanAt l f p ≤ l.length := by
      intro f
      induction f with
      | zero => intro p _; show (-1 : Int) ≤ _; omega
      | succ f ih =>
        intro p hp
        unfold cleanAt
        split
        · split
          · omega
          · exact ih _ (drop_wide hp)
        · omega
    exact this _ _ (Nat.zero_le _)
  rw [if_neg h2]
  have hc : cleanAt l l.length 0 = -1 := by
    rcases cleanAt_ge l l.length 0 with e | e
    · exact e
    · exact absurd e h2
  cases ht : (toks l l.length 0).2 with
  | none =>
    refine .inr ⟨_, rfl, by omega, ?_⟩
    exact toks_tiles l _ 0 (fun g hg => by rw [← cleanAt_fuel l l.length g 0 (by omega) hg]; exact hc) (Nat.zero_le _) (by omega) ht
  | some p =>
    refine .inl ⟨4, p, rfl, by decide, by omega, ?_⟩
    have : ∀ f q, (toks l f q).2 = some p → p ≤ l.length := by
      intro f
      induction f with
      | zero => intro q h; cases h
      | succ f ih =>
        intro q h
        by_cases hq : q < l.length
        · rw [toks_step l f q hq] at h
          split at h
          · injection h with h; omega
          · exact ih _ h
        · rw [toks_end l _ q hq] at h; cases h
    have := this _ _ ht
    omega
theorem row_three {w3 : World} {b : Nat} {x y z u v t : Value} (h : w3.heap[b]? = some (.cells #[u, v, t] 40 (0, 0))) :
    (((w3.setCell ⟨b, 0, none⟩ x).setCell ⟨b, 1, none⟩ y).setCell ⟨b, 2, none⟩ z).heap[b]? = some (.cells #[x, y, z] 40 (0, 0)) := by
  have h1 := heap_setCell_same w3 b 0 _ 40 x h
  have h2 := heap_setCell_same _ b 1 _ 40 y h1
  exact heap_setCell_same _ b 2 _ 40 z h2
theorem tok_neqI (x y z : Int) (w : World) : (binOp .neq 40 (.agg #[.int .u8 x, .int .i64 y, .int .i64 z]) (.agg #[.int .u8 x, .int .i64 y, .int .i64 z])).run Tryz.prog w = .ok (.bool false) w := by
  have ht : Tryz.prog.underlying 40 = some (.struct (Tryz.prog.fieldsOf 40)) := by kernel_rfl
  have hp : Tryz.prog.stoodInHeld 40 = false := by kernel_rfl
  have hf : (Tryz.prog.fieldsOf 40).toList.map (fun f => (f.name, f.type, f.offset)) = [("Kind", 5, 0), ("From", 3, 1), ("To", 3, 2)] := by kernel_rfl
  rw [run_neq_struct, run_equalIn_agg _ 9999 40 _ _ ht hp]
  generalize (Tryz.prog.fieldsOf 40).toList = l at hf
  rcases l with _ | ⟨f1, _ | ⟨f2, _ | ⟨f3, _ | ⟨f4, l⟩⟩⟩⟩ <;> simp at hf
  obtain ⟨⟨n1, t1, o1⟩, ⟨n2, t2, o2⟩, n3, t3, o3⟩ := hf
  have u3 : Tryz.prog.underlying 3 = some (.int .i64) := by kernel_rfl
  have u5 : Tryz.prog.underlying 5 = some (.int .u8) := by kernel_rfl
  simp [go_sem, n1, t1, o1, n2, t2, o2, n3, t3, o3, u3, u5]
theorem bcell {W w1 : World} (hb : Below W.heap.size W w1) : (∀ b o, b < W.heap.size → w1.cell? ⟨b, o, none⟩ = W.cell? ⟨b, o, none⟩) ∧ (∀ b o, b < W.heap.size → w1.frozen? ⟨b, o, none⟩ = W.frozen? ⟨b, o, none⟩) :=
  ⟨fun b o h => hb.cell (p := ⟨b, o, none⟩) h, fun b o h => hb.frozen (p := ⟨b, o, none⟩) h⟩
theorem slice_str (s : ByteArray) (a b : Nat) (h1 : a ≤ b) (h2 : b ≤ s.size) (w : World) :
    (Instr.slice 9 (.string s) (some (.int .i64 (a : Int))) (some (.int .i64 (b : Int))) none).run Tryz.prog w = .ok (.string (s.extract a b)) w := by
  rw [run_slice_string _ 9 s .i64 .i64 _ _ Tryz.underlying9 (by omega) (by omega) (by omega)]
  simp
/-- scan.All, in plain words -/
theorem all_toks (s : ByteArray) (w : World) (hM : Mx w) : Calls Tryz.prog 15 #[.string s] w fun e w' => (∃ a cap, e = .returned (.tuple #[.slice a (allAns s.data.toList).1.length cap, .agg #[.int .i64 (allAns s.data.toList).2.1, .int .i64 (allAns s.data.toList).2.2]]) ∧ Toks w' a (allAns s.data.toList).1 ∧ (allAns s.data.toList).1.length ≤ maxLen) ∧ Below w.heap.size w w' := by
  refine (all_any s w hM).mono ?_
  rintro e w' ⟨⟨v, rfl, hO⟩, hB⟩
  obtain ⟨a, cap, rfl, hT, hL⟩ := own_toks hO
  exact ⟨⟨a, cap, rfl, hT, hL⟩, hB⟩
end Go.Proofs.YtbkmlldhjchhjaaGreat
