/-
  Layer 11: the closure of term.Swap, pieces put one behind the other (texts Jf Jg Jk).
-/
import Derived.Test.YtoffjpgobhcipaaDoorKb
import Derived.Laws.CopyOwn
import Derived.Deep.RegionLaw
namespace Go.Proofs.YtoffjpgobhcipaaDoor.Trm
open Go.ChangeShapes Go.WideShapes Go.ChangeAt Go.RowKit

/-- copy, of elements of several cells -/
theorem run_copy_rows {P : Program} (w : World) (dT sT ty elem sz : TypeId) (g o dLen dCap : Nat) (a : Addr) (sLen sCap m : Nat) (cur : Array Value) (t : TypeId) (cs : List Value)
    (hu : P.underlying dT = some (.slice elem)) (hs : (P.info? elem).map (·.size) = some sz)
    (hg : w.heap[g]? = some (.cells cur t (0, 0))) (hm : Nat.min sLen dLen = m) (hn : cs.length = m * sz)
    (hsrc : ∀ j v, cs[j]? = some v → w.cell? (a.add j) = some v) (hfit : o + cs.length ≤ cur.size) (h1 : ∀ v ∈ cs, v.oneCell' = true) :
    (Builtin.copy_ #[dT, sT] ty #[.slice (some ⟨g, o, none⟩) dLen dCap, .slice (some a) sLen sCap]).run P w =
      .ok (goInt m) (w.setRow g (cur.toList.take o ++ cs ++ cur.toList.drop (o + cs.length)).toArray) := by
  have hl := run_loadCells_list (P := P) w a cs hsrc
  have hst := run_storeCells_at P g o t cs 0 cur w hg (by simpa using hfit) h1
  cases hq : P.info? elem with
  | none => simp [hq] at hs
  | some i =>
    have hi : i.size = sz := by simpa [hq] using hs
    simp [Builtin.copy_, run_underlying hu, Builtin.lenOf, Builtin.firstCells, sizeOf, typeInfo, hq, hi, hm, ← hn, hl, hst]
theorem run_copy_zero {P : Program} (w : World) (dT sT ty elem : TypeId) (d s : Option Addr) (dLen dCap sCap : Nat) (hu : P.underlying dT = some (.slice elem)) (hs : ((P.info? elem).map (·.size)).isSome = true) :
    (Builtin.copy_ #[dT, sT] ty #[.slice d dLen dCap, .slice s 0 sCap]).run P w = .ok (goInt 0) w := by
  cases hq : P.info? elem with
  | none => simp [hq] at hs
  | some i =>
    cases d <;> cases s <;> simp [Builtin.copy_, run_underlying hu, Builtin.lenOf, Builtin.firstCells, sizeOf, typeInfo, hq, storeCells, loadCells, loadCellsFrom]
theorem step_copy_rows {P : Program} {ops : Array Oper} {o : Oper} {a : Act} {w : World} {K : Act → World → Prop} {Q : Exit → Act → World → Prop} {E : Prop}
    (hg : o.guard = none) (d x : Operand) (dT sT : TypeId) (hop : o.op = Op.call { callee := Callee.builtin Builtin.copy, args := #[d, x], argTypes := #[dT, sT] })
    (v u : Value) (hd : a.eval d = v) (hx : a.eval x = u) {v' : Value} {w' : World} (hr : (Builtin.copy_ #[dT, sT] o.type #[v, u]).run P w = .ok v' w') (hK : K (a.put o.dst v') w') :
    if Region.wanted o (yielded ops a.tmps) = true then Oper.wp P o a w K Q else E := by
  have hw : Region.wanted o (yielded ops a.tmps) = true := by simp [Region.wanted, hg]
  rw [if_pos hw]
  unfold Oper.wp execOp
  simp only [hop, resolve, invoke, builtin, Sem.run_bind, Sem.run_pure, Result.andThen_ok, List.map_toArray, List.map_cons, List.map_nil, hd, hx, hr]
  exact hK
theorem info28s3 : (Tryd.prog.info? 33).map (·.size) = some 3 := by kernel_rfl
/-- a piece stands behind what was there -/
def PutIs (w w' : World) (g ba k : Nat) (cur : List Value) (L : List Pt) : Prop :=
  w'.heap[g]? = some (.cells (splice cur (k * 3) (cellsP L)).toArray 33 (0, 0)) ∧ w'.heap[ba]? = some (.cells #[.int .i64 ((k + L.length : Nat) : Int)] 3 (0, 0)) ∧ (∀ b, b ≠ g → b ≠ ba → w'.heap[b]? = w.heap[b]?) ∧ (∀ B, B ≤ g → B ≤ ba → Below B w w') ∧ w'.heap.size = w.heap.size
theorem splice_nil {α : Type} (L : List α) (o : Nat) : splice L o [] = L := by simp [splice]
set_option maxRecDepth 100000 in
set_option maxHeartbeats 8000000 in
theorem put_nothing (w : World) (ba bo g N k : Nat) (a : Option Addr) (c : Nat) (cur : List Value) (hG : w.heap[g]? = some (.cells cur.toArray 33 (0, 0))) (hA : w.heap[ba]? = some (.cells #[.int .i64 (k : Int)] 3 (0, 0)))
    (hO : w.cell? ⟨bo, 0, none⟩ = some (.slice (some ⟨g, 0, none⟩) N N)) (hk : k ≤ N) (hN : N ≤ 4398046511104) (hga : g ≠ ba) :
    Calls Tryd.prog 27 #[.slice a 0 c, .pointer (some ⟨ba, 0, none⟩), .pointer (some ⟨bo, 0, none⟩)] w fun e w' => e = .returned (.tuple #[]) ∧ PutIs w w' g ba k cur [] := by
  have cA := cell_of_one hA
  have fA := free_of_one hA
  have h1 : 0 ≤ (k : Int) := by omega
  have h2 : (k : Int) ≤ (N : Int) := by omega
  have hz := fun w d dl dc ty => run_copy_zero (P := Tryd.prog) w 22 22 ty 33 d a dl dc c Tryd.underlying22 (by kernel_rfl)
  have HR : Hid (PutIs w (w.drew.setCell ⟨ba, 0, none⟩ (.int .i64 (k : Int))) g ba k cur []) := Lib.hid (by
    refine ⟨?_, ?_, fun b _ h => ?_, fun B _ h => ?_, by simp⟩
    · rw [heap_setCell_other _ _ _ _ (by exact hga)]
      show w.heap[g]? = _
      rw [show cellsP [] = [] from rfl, splice_nil]; exact hG
    · exact one_setCell (w := w.drew) hA
    · rw [heap_setCell_other _ _ _ _ (by exact h)]; rfl
    · exact (Below.refl _ w).drew.setCell (p := ⟨ba, 0, none⟩) h _)
  have hw0 : IntKind.i64.wrap (k : Int) = (k : Int) := by rw [IntKind.wrap_i64]; omega
  clear hA hG
  go_enter Tryd.func27, Tryd.ntmps27
  by_cases hkn : k = N
  · subst hkn
    go_region_law (refine step_copy_rows rfl (.tmp 7) (.tmp 8) 22 22 rfl _ _ rfl rfl (hz _ _ _ _ _) ?_)
    all_goals
      go_end0
      exact ⟨rfl, HR.out⟩
  · go_region_law (refine step_copy_rows rfl (.tmp 7) (.tmp 8) 22 22 rfl _ _ rfl rfl (hz _ _ _ _ _) ?_)
    all_goals
      go_end0
      exact ⟨rfl, HR.out⟩
end Go.Proofs.YtoffjpgobhcipaaDoor.Trm

namespace Go.Proofs.YtoffjpgobhcipaaDoor.Trm
open Go.ChangeShapes Go.WideShapes Go.ChangeAt Go.RowKit

set_option maxRecDepth 100000 in
set_option maxHeartbeats 8000000 in
theorem put_some (w : World) (ba bo g N k : Nat) (ad : Addr) (m c : Nat) (L : List Pt) (cur : List Value) (hG : w.heap[g]? = some (.cells cur.toArray 33 (0, 0))) (hcl : cur.length = N * 3) (hA : w.heap[ba]? = some (.cells #[.int .i64 (k : Int)] 3 (0, 0)))
    (hO : w.cell? ⟨bo, 0, none⟩ = some (.slice (some ⟨g, 0, none⟩) N N)) (hk : k + m ≤ N) (hm : 0 < m) (hN : N ≤ 4398046511104) (hga : g ≠ ba) (hL : L.length = m) (hcs : ∀ j v, (cellsP L)[j]? = some v → w.cell? (ad.add j) = some v) :
    Calls Tryd.prog 27 #[.slice (some ad) m c, .pointer (some ⟨ba, 0, none⟩), .pointer (some ⟨bo, 0, none⟩)] w fun e w' => e = .returned (.tuple #[]) ∧ PutIs w w' g ba k cur L := by
  have cA := cell_of_one hA
  have fA := free_of_one hA
  have h1 : 0 ≤ (k : Int) := by omega
  have h2 : (k : Int) ≤ (N : Int) := by omega
  have hnk : ¬ N = k := by omega
  obtain ⟨X, hX⟩ : ∃ X : Array Value, X = (cur.toArray.toList.take (k * 3) ++ cellsP L ++ cur.toArray.toList.drop (k * 3 + (cellsP L).length)).toArray := ⟨_, rfl⟩
  have hz := fun (w' : World) dc ty (hw' : w'.heap = w.heap) => run_copy_rows (P := Tryd.prog) w' 22 22 ty 33 3 g (k * 3) (N - k) dc ad m c m cur.toArray 33 (cellsP L) Tryd.underlying22 info28s3 (by rw [hw']; exact hG) (Nat.min_eq_left (by omega)) (by rw [cellsP_len, hL]) (fun j v h => by
    have := hcs j v h
    unfold World.cell? at this ⊢
    rw [hw']
    exact this) (by rw [cellsP_len, hL]; simp; omega) (cells_one L)
  simp only [← hX] at hz
  have hX2 : X = (splice cur (k * 3) (cellsP L)).toArray := by rw [hX]; simp [splice]
  have cA2 : (w.drew.setRow g X).cell? ⟨ba, 0, none⟩ = some (.int .i64 (k : Int)) := by
    rw [← cA]
    exact World.cell?_of_block (setRow_other _ _ _ _ (fun e => hga e.symm))
  have fA2 : (w.drew.setRow g X).frozen? ⟨ba, 0, none⟩ = false := by
    rw [← fA]
    exact World.frozen?_of_block (setRow_other _ _ _ _ (fun e => hga e.symm))
  have hw1 : IntKind.i64.wrap ((k : Int) + (m : Int)) = (k : Int) + m := by rw [IntKind.wrap_i64]; omega
  have HR : Hid (PutIs w ((w.drew.setRow g X).setCell ⟨ba, 0, none⟩ (.int .i64 ((k : Int) + m))) g ba k cur L) := Lib.hid (by
    refine ⟨?_, ?_, fun b h h' => ?_, fun B h h' => ?_, by simp [World.setRow]⟩
    · rw [heap_setCell_other _ _ _ _ (by exact hga), hX2]
      exact setRow_heap w.drew g _ _ 33 _ hG
    · rw [show ((k + L.length : Nat) : Int) = (k : Int) + m by omega]
      exact one_setCell (w := w.drew.setRow g X) (by rw [setRow_other _ _ _ _ (fun e => hga e.symm)]; exact hA)
    · rw [heap_setCell_other _ _ _ _ (by exact h'), setRow_other _ _ _ _ h]; rfl
    · exact (Go.below_setRow (Below.refl _ w).drew h X).setCell (p := ⟨ba, 0, none⟩) h' _)
  clear hA hG hX hX2
  go_enter Tryd.func27, Tryd.ntmps27
  go_region_law (refine step_copy_rows rfl (.tmp 7) (.tmp 8) 22 22 rfl (.slice (some ⟨g, k * 3, none⟩) (N - k) (N - k)) (.slice (some ad) m c) (by simp [Act.eval, Act.put]) (by simp [Act.eval, Act.put]) (hz _ _ _ rfl) ?_)
  all_goals
    go_end0
    exact ⟨rfl, HR.out⟩
theorem put_any (w : World) (ba bo g N k : Nat) (a : Option Addr) (m c : Nat) (L : List Pt) (cur : List Value) (hG : w.heap[g]? = some (.cells cur.toArray 33 (0, 0))) (hcl : cur.length = N * 3) (hA : w.heap[ba]? = some (.cells #[.int .i64 (k : Int)] 3 (0, 0)))
    (hO : w.cell? ⟨bo, 0, none⟩ = some (.slice (some ⟨g, 0, none⟩) N N)) (hk : k + m ≤ N) (hN : N ≤ 4398046511104) (hga : g ≠ ba) (hL : L.length = m) (hs : 0 < m → ∃ ad, a = some ad ∧ ∀ j v, (cellsP L)[j]? = some v → w.cell? (ad.add j) = some v) :
    Calls Tryd.prog 27 #[.slice a m c, .pointer (some ⟨ba, 0, none⟩), .pointer (some ⟨bo, 0, none⟩)] w fun e w' => e = .returned (.tuple #[]) ∧ PutIs w w' g ba k cur L := by
  rcases Nat.eq_zero_or_pos m with rfl | hm
  · obtain rfl := List.eq_nil_of_length_eq_zero hL
    exact put_nothing w ba bo g N k a c cur hG hA hO (by omega) hN hga
  · obtain ⟨ad, rfl, hcs⟩ := hs hm
    exact put_some w ba bo g N k ad m c L cur hG hcl hA hO hk hm hN hga hL hcs
theorem splice_app (D L : List Pt) (rest : List Value) : splice (cellsP D ++ rest) (D.length * 3) (cellsP L) = cellsP (D ++ L) ++ rest.drop (cellsP L).length := by
  unfold splice
  rw [← cellsP_len D, List.take_left, cellsP_app, List.append_assoc, ← List.drop_drop, List.drop_left]
theorem cellsP_take (l : List Pt) (i : Nat) : ∀ (j : Nat) (v : Value), (cellsP (l.take i))[j]? = some v → (cellsP l)[j]? = some v := by
  intro j v h
  have h1 : cellsP l = cellsP (l.take i) ++ cellsP (l.drop i) := by rw [← cellsP_app, List.take_append_drop]
  rw [h1, List.getElem?_append_left (List.getElem?_eq_some_iff.1 h).1]
  exact h
theorem cellsP_drop (l : List Pt) (i : Nat) (hi : i ≤ l.length) (j : Nat) : (cellsP (l.drop i))[j]? = (cellsP l)[i * 3 + j]? := by
  have h1 : cellsP l = cellsP (l.take i) ++ cellsP (l.drop i) := by rw [← cellsP_app, List.take_append_drop]
  have h2 : (cellsP (l.take i)).length = i * 3 := by rw [cellsP_len, List.length_take, Nat.min_eq_left hi]
  rw [h1, List.getElem?_append_right (by omega), h2]
  congr 1
  omega
end Go.Proofs.YtoffjpgobhcipaaDoor.Trm

namespace Go.Proofs.YtoffjpgobhcipaaDoor.Trm
open Go.ChangeShapes Go.WideShapes Go.ChangeAt Go.RowKit

/-- what has been put into a new list -/
def PutSt (w : World) (g ba bo N : Nat) (D : List Pt) : Prop :=
  (∃ rest : List Value, w.heap[g]? = some (.cells (cellsP D ++ rest).toArray 33 (0, 0)) ∧ D.length * 3 + rest.length = N * 3) ∧ w.heap[ba]? = some (.cells #[.int .i64 (D.length : Nat)] 3 (0, 0)) ∧ w.heap[bo]? = some (.cells #[.slice (some ⟨g, 0, none⟩) N N] 22 (0, 0))
theorem put_step (w : World) (g ba bo N : Nat) (D L : List Pt) (hst : PutSt w g ba bo N D) (hg : g ≠ ba) (h1 : bo ≠ g) (h2 : bo ≠ ba) (hN : N ≤ 4398046511104) (a : Option Addr) (m c : Nat) (hL : L.length = m) (hk : D.length + m ≤ N)
    (hs : 0 < m → ∃ ad, a = some ad ∧ ∀ j v, (cellsP L)[j]? = some v → w.cell? (ad.add j) = some v) :
    Calls Tryd.prog 27 #[.slice a m c, .pointer (some ⟨ba, 0, none⟩), .pointer (some ⟨bo, 0, none⟩)] w fun e w' => e = .returned (.tuple #[]) ∧ PutSt w' g ba bo N (D ++ L) ∧ (∀ b, b ≠ g → b ≠ ba → w'.heap[b]? = w.heap[b]?) ∧ (∀ B, B ≤ g → B ≤ ba → Below B w w') ∧ w'.heap.size = w.heap.size := by
  obtain ⟨⟨rest, hG, hR⟩, hA, hO⟩ := hst
  have hO2 : w.cell? ⟨bo, 0, none⟩ = some (.slice (some ⟨g, 0, none⟩) N N) := (cell_of_row w bo 0 _ 22 (0, 0) hO).trans rfl
  refine (put_any w ba bo g N D.length a m c L (cellsP D ++ rest) hG (by rw [List.length_append, cellsP_len]; omega) hA hO2 hk hN hg hL hs).mono ?_
  rintro e w' ⟨rfl, h3, h4, h5, h6, h7⟩
  refine ⟨rfl, ⟨⟨rest.drop (cellsP L).length, ?_, ?_⟩, ?_, ?_⟩, h5, h6, h7⟩
  · rw [h3, splice_app]
  · rw [List.length_append, List.length_drop, cellsP_len]; omega
  · rw [h4, List.length_append]
  · rw [h5 bo h1 h2]; exact hO
theorem put_new (w : World) (N : Nat) (Z : List Value) (hZ : Z.length = N * 3) :
    PutSt (((w.alloc (.cells Z.toArray 33)).alloc (.cells #[.slice (some ⟨w.heap.size, 0, none⟩) N N] 22)).alloc (.cells #[.int .i64 0] 3)) w.heap.size (w.heap.size + 1 + 1) (w.heap.size + 1) N [] := by
  refine ⟨⟨Z, ?_, ?_⟩, ?_, ?_⟩
  · show ((((w.heap.push _).push _).push _)[w.heap.size]?) = _
    rw [Array.getElem?_push, if_neg (by simp; omega), Array.getElem?_push, if_neg (by simp), Array.getElem?_push, if_pos rfl]
    rfl
  · rw [hZ]; simp
  · show ((((w.heap.push _).push _).push _)[w.heap.size + 1 + 1]?) = _
    rw [Array.getElem?_push, if_pos (by simp)]
    rfl
  · show ((((w.heap.push _).push _).push _)[w.heap.size + 1]?) = _
    rw [Array.getElem?_push, if_neg (by simp), Array.getElem?_push, if_pos (by simp)]
theorem put_mine {w : World} {g ba bo N : Nat} {D : List Pt} (h : PutSt w g ba bo N D) (hD : D.length = N) (hN : N ≤ maxLen) {B : Nat} (hB : B ≤ g) : MineP w B (.slice (some ⟨g, 0, none⟩) N N) D := by
  obtain ⟨⟨rest, hG, hR⟩, _⟩ := h
  have hr : rest = [] := List.eq_nil_of_length_eq_zero (by omega)
  subst hr
  rw [List.append_nil] at hG
  refine ⟨cellsP_len D, .inr ⟨g, N, _, by rw [hD], hB, hG, by omega, hN, by simp [cellsP_len, hD], ?_⟩⟩
  rw [← cellsP_len D]
  simp
theorem put_kids {w : World} {g ba bo N : Nat} {D : List Pt} (h : PutSt w g ba bo N D) {u : Nat} {x : Pt} (hx : D[u]? = some x) : w.cell? ⟨g, u * 3 + 1, none⟩ = some (.int .i64 x.kids) ∧ w.frozen? ⟨g, u * 3 + 1, none⟩ = false := by
  obtain ⟨⟨rest, hG, hR⟩, _⟩ := h
  refine ⟨?_, by simp [World.frozen?, hG]⟩
  rw [cell_of_row w g (u * 3 + 1) _ 33 (0, 0) hG]
  have h1 := (cellsP_at D u x hx).2.1
  have h2 := (List.getElem?_eq_some_iff.1 h1).1
  rw [List.getElem?_toArray, List.getElem?_append_left h2]
  exact h1
end Go.Proofs.YtoffjpgobhcipaaDoor.Trm
