/-
  Layer 7: rows of lexemes, read; contract of the document's Same over two rows that read alike.
-/
import Derived.Test.YtbkmlldhjchhjaaGreatSq
import Derived.Laws.StructEq
namespace Go.Proofs.YtbkmlldhjchhjaaGreat
open Go.ChangeShapes Go.WideShapes Go.ChangeAt Go.RowKit

/-- a slice that reads as lexemes -/
def Toks (w : World) (a : Option Addr) (T : List (Nat × Nat × Nat)) : Prop :=
  ∀ k x, T[k]? = some x → ∃ g, a = some ⟨g, 0, none⟩ ∧ w.cell? ⟨g, k * 3, none⟩ = some (.int .u8 x.1) ∧ w.cell? ⟨g, k * 3 + 1, none⟩ = some (.int .i64 x.2.1) ∧ w.cell? ⟨g, k * 3 + 2, none⟩ = some (.int .i64 x.2.2)
theorem cell_lt {w : World} {a : Addr} {v : Value} (h : w.cell? a = some v) : a.block < w.heap.size := by
  unfold World.cell? at h
  cases hb : w.heap[a.block]? with
  | none => rw [hb] at h; cases h
  | some o => exact (Array.getElem?_eq_some_iff.1 hb).1
theorem Toks.below {w w' : World} {a : Option Addr} {T : List (Nat × Nat × Nat)} (h : Toks w a T) (hB : Below w.heap.size w w') : Toks w' a T := by
  intro k x hk
  obtain ⟨g, e, c0, c1, c2⟩ := h k x hk
  exact ⟨g, e, (hB.cell (p := ⟨g, _, none⟩) (cell_lt c0)).trans c0, (hB.cell (p := ⟨g, _, none⟩) (cell_lt c1)).trans c1, (hB.cell (p := ⟨g, _, none⟩) (cell_lt c2)).trans c2⟩
theorem tcells_len : ∀ T, (tcells T).length = T.length * 3
  | [] => rfl
  | x :: l => by rw [tcells, List.flatMap_cons, List.length_append, ← tcells, tcells_len l]; simp; omega
theorem tcells_at : ∀ (T : List (Nat × Nat × Nat)) (k : Nat) (x : Nat × Nat × Nat), T[k]? = some x → (tcells T)[k * 3]? = some (.int .u8 x.1) ∧ (tcells T)[k * 3 + 1]? = some (.int .i64 x.2.1) ∧ (tcells T)[k * 3 + 2]? = some (.int .i64 x.2.2)
  | [], k, x, h => by simp at h
  | y :: l, 0, x, h => by
    simp at h; subst h
    exact ⟨rfl, rfl, rfl⟩
  | y :: l, k + 1, x, h => by
    have := tcells_at l k x (by simpa using h)
    have e : tcells (y :: l) = [.int .u8 y.1, .int .i64 y.2.1, .int .i64 y.2.2] ++ tcells l := rfl
    rw [e]
    refine ⟨?_, ?_, ?_⟩
    · rw [List.getElem?_append_right (by simp; omega), show (k + 1) * 3 - [Value.int .u8 y.1, .int .i64 y.2.1, .int .i64 y.2.2].length = k * 3 by simp; omega]; exact this.1
    · rw [List.getElem?_append_right (by simp; omega), show (k + 1) * 3 + 1 - [Value.int .u8 y.1, .int .i64 y.2.1, .int .i64 y.2.2].length = k * 3 + 1 by simp; omega]; exact this.2.1
    · rw [List.getElem?_append_right (by simp; omega), show (k + 1) * 3 + 2 - [Value.int .u8 y.1, .int .i64 y.2.1, .int .i64 y.2.2].length = k * 3 + 2 by simp; omega]; exact this.2.2
theorem own_toks {w : World} {B : Nat} {v : Value} {T : List (Nat × Nat × Nat)} (h : OwnT w B v T) : ∃ a cap, v = .slice a T.length cap ∧ Toks w a T ∧ T.length ≤ maxLen := by
  rcases h.2 with ⟨rfl, h0⟩ | ⟨g, cap, cur, rfl, hb, hg, hn, hm, hs, ht⟩
  · rw [h0]
    exact ⟨none, 0, rfl, fun k x hx => by have := (List.getElem?_eq_some_iff.1 hx).1; omega, by unfold maxLen; omega⟩
  · refine ⟨some ⟨g, 0, none⟩, cap, rfl, fun k x hx => ?_, by omega⟩
    have hk := (List.getElem?_eq_some_iff.1 hx).1
    obtain ⟨c0, c1, c2⟩ := tcells_at T k x hx
    exact ⟨g, rfl, (World.ownsRow.cellAt h _ (by omega)).trans c0, (World.ownsRow.cellAt h _ (by omega)).trans c1, (World.ownsRow.cellAt h _ (by omega)).trans c2⟩
theorem tok_neq (x y z : Nat) (w : World) : (binOp .neq 40 (.agg #[.int .u8 x, .int .i64 y, .int .i64 z]) (.agg #[.int .u8 x, .int .i64 y, .int .i64 z])).run Tryz.prog w = .ok (.bool false) w := by
  have ht : Tryz.prog.underlying 40 = some (.struct (Tryz.prog.fieldsOf 40)) := by kernel_rfl
  have hp : Tryz.prog.stoodInHeld 40 = false := by kernel_rfl
  have hf : (Tryz.prog.fieldsOf 40).toList.map (fun f => (f.name, f.type, f.offset)) = [("Kind", 5, 0), ("From", 3, 1), ("To", 3, 2)] := by kernel_rfl
  rw [run_neq_struct, run_equalIn_agg _ 9999 40 _ _ ht hp]
  generalize (Tryz.prog.fieldsOf 40).toList = l at hf
  rcases l with _ | ⟨f1, _ | ⟨f2, _ | ⟨f3, _ | ⟨f4, l⟩⟩⟩⟩ <;> simp at hf
  obtain ⟨⟨n1, t1, o1⟩, ⟨n2, t2, o2⟩, n3, t3, o3⟩ := hf
  have u3 : Tryz.prog.underlying 3 = some (.int .i64) := by kernel_rfl
  have u5 : Tryz.prog.underlying 5 = some (.int .u8) := by kernel_rfl
  simp [go_sem, n1, t1, o1, n2, t2, o2, n3, t3, o3, u3, u5]
theorem tok_guard (u v : Operand) (xs ys : Array Value) (w : World) : (eqGuard .neq 40 u v (.agg xs) (.agg ys)).run Tryz.prog w = .ok () w :=
  run_eqGuard_agg w .neq 40 u v xs ys (by kernel_rfl)
set_option maxRecDepth 100000 in
set_option maxHeartbeats 4000000 in
theorem same_yes (w : World) (a b : Option Addr) (ca cb : Nat) (T : List (Nat × Nat × Nat)) (he : Toks w a T) (hf : Toks w b T) (hn : T.length ≤ maxLen) :
    Calls Tryz.prog 8 #[.slice a T.length ca, .slice b T.length cb] w fun e w' => e = .returned (.bool true) ∧ Below w.heap.size w w' := by
  unfold maxLen at hn
  obtain ⟨n, hnn⟩ : ∃ n, n = T.length := ⟨_, rfl⟩
  rw [← hnn] at hn
  rw [← hnn]
  have HN := Lib.hid hnn
  clear hnn
  go_enter Tryz.func8, Tryz.ntmps8
  go_wp2
  go_loopw [5] (fun i wr => ∃ (k : Nat), k ≤ n ∧ i = .int .i64 k ∧ Below w.heap.size w wr) (fun i _ => n - (intOf i).toNat)
  case atStart => exact ⟨0, by omega, rfl, Below.refl _ _⟩
  case round =>
    obtain ⟨k, hk, rfl, hB⟩ := hrel
    by_cases hlt : k < n
    · have j1 : (k : Int) < n := by omega
      obtain ⟨⟨x0, x1, x2⟩, hx⟩ : ∃ x, T[k]? = some x := ⟨T[k]'(by rw [← HN.out]; exact hlt), List.getElem?_eq_getElem (by rw [← HN.out]; exact hlt)⟩
      obtain ⟨g, rfl, c0, c1, c2⟩ := he.below hB k _ hx
      obtain ⟨g', rfl, d0, d1, d2⟩ := hf.below hB k _ hx
      clear he hf hx
      dsimp only at c0 c1 c2 d0 d1 d2
      have hne := fun w => tok_neq x0 x1 x2 w
      have hgd := fun u v w => tok_guard u v #[.int .u8 x0, .int .i64 x1, .int .i64 x2] #[.int .u8 x0, .int .i64 x1, .int .i64 x2] w
      go_wp2
      go_quiet (fail)
      go_wp2
      go_roundw
      case rel => exact ⟨k + 1, by omega, by go_num, below_drewN hB _⟩
      case measure => simp [intOf]; omega
    · obtain rfl : k = n := by omega
      go_wp2
      go_ret
      exact ⟨rfl, hB⟩
end Go.Proofs.YtbkmlldhjchhjaaGreat
