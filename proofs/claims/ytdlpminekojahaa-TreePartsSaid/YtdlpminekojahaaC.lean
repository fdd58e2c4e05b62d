/-
  Layer 10: the stack in memory; contracts of its enter and leave.
-/
import Derived.Test.YtdlpminekojahaaB
import Derived.OwnWalk
import Derived.Laws.AppendOwn
import Derived.Laws.OwnMore
import Derived.StillTailTactics
import Derived.Laws.EntriesVeiled
import Derived.Deep.AppendLies
import Derived.Deep.RegionLaw
import Derived.OneCell
namespace Go.Proofs.Ytdlpminekojahaa
open Go.ChangeShapes Go.WideShapes Go.ChangeAt Go.RowKit

theorem info43 : (Try.prog.info? 43).map (fun i => (i.zero, i.size, i.bytes)) = some (some (.agg #[.int .u8 0, .int .i64 0, .int .i64 0, .int .i64 0, .int .i64 0, .int .i64 0, .int .i64 0]), 7, 56) := by kernel_rfl
def rmsV (rs : List Rm) : List Value := rs.flatMap rmV
theorem rmV_len (r : Rm) : (rmV r).length = 7 := rfl
theorem rmsV_len : ∀ rs, (rmsV rs).length = rs.length * 7
  | [] => rfl
  | x :: l => by rw [rmsV, List.flatMap_cons, List.length_append, ← rmsV, rmsV_len l, rmV_len]; simp; omega
theorem rmsV_app (a b : List Rm) : rmsV (a ++ b) = rmsV a ++ rmsV b := by simp [rmsV]
/-- a stack, the last row first -/
def StkM (w : World) (base : Nat) (v : Value) (st : List Rm) : Prop := w.ownsRow base 43 7 v st.length (rmsV st.reverse)
/-- a box that holds a stack -/
def BoxM (w : World) (b base : Nat) (st : List Rm) : Prop := ∃ v, w.heap[b]? = some (.cells #[v] 37 (0, 0)) ∧ StkM w base v st ∧ v.ownBlock ≠ some b
theorem boxM_mono {w w' : World} {b base : Nat} {st : List Rm} (h : BoxM w b base st) (hw : ∀ k, k < w.heap.size → w'.heap[k]? = w.heap[k]?) (hs : w.heap.size ≤ w'.heap.size) (ho : w'.os = w.os) (ht : w'.tape = w.tape) (hp : w'.output = w.output) : BoxM w' b base st := by
  obtain ⟨v, hb, hv, hn⟩ := h
  have hlt := (Array.getElem?_eq_some_iff.1 hb).1
  exact ⟨v, (hw b hlt).trans hb, hv.kept (w := w) (w' := w') (row := none) ⟨ho, ht, hp, hs, fun k hk _ => hw k hk⟩ (by cases v.ownBlock <;> simp), hn⟩
theorem boxM_below {w w' : World} {b base : Nat} {st : List Rm} (h : BoxM w b base st) (hB : Below w.heap.size w w') : BoxM w' b base st :=
  boxM_mono h (fun k hk => hB.block k hk) hB.size hB.os hB.tape hB.output
theorem new_cells (w : World) (t : TypeId) (cs : Array Value) (j : Nat) (u : Value) (h : cs[j]? = some u) : (w.alloc (.cells cs t)).cell? ((⟨w.heap.size, 0, none⟩ : Addr).add j) = some u := by
  have := cell_of_row (w.alloc (.cells cs t)) w.heap.size j cs t (0, 0) (heap_alloc_new w _)
  rw [← h, ← this]
  by_cases hj : j = 0
  · subst hj; rfl
  · simp [Addr.add, hj]
theorem rms_last (rs : List Rm) (r : Rm) (k : Nat) (hk : k < 7) (u : Value) (h : (rmV r)[k]? = some u) : (rmsV (rs ++ [r]))[rs.length * 7 + k]? = some u := by
  rw [rmsV_app, List.getElem?_append_right (by rw [rmsV_len]; omega), rmsV_len, show rs.length * 7 + k - rs.length * 7 = k by omega]
  rw [show rmsV [r] = rmV r from by simp [rmsV]]; exact h
theorem rms_set (rs : List Rm) (r : Rm) (p q : Int) : ((rmsV (rs ++ [r])).set (rs.length * 7 + 5) (.int .i64 p)).set (rs.length * 7 + 6) (.int .i64 q) = rmsV (rs ++ [⟨r.nd, p, q⟩]) := by
  rw [rmsV_app, rmsV_app, List.set_append_right _ _ (by rw [rmsV_len]; omega), List.set_append_right _ _ (by rw [rmsV_len]; omega), rmsV_len, show rs.length * 7 + 5 - rs.length * 7 = 5 by omega, show rs.length * 7 + 6 - rs.length * 7 = 6 by omega]
  rfl
def enterM (x : Nd) : List Rm → List Rm
  | [] => [⟨x, x.kids, x.lo⟩]
  | r :: st => ⟨x, x.kids, x.lo⟩ :: ⟨r.nd, r.left - 1, x.hi⟩ :: st
set_option maxRecDepth 100000 in
set_option maxHeartbeats 4000000 in
theorem enter_more (x : Nd) (r : Rm) (st : List Rm) (w : World) (b base D : Nat) (hD1 : D ≤ b) (hD2 : D ≤ base) (hbs : base ≤ w.heap.size) (h : BoxM w b base (r :: st)) (hl : st.length < 1099511627776) (h1 : -9223372036854775807 ≤ r.left) (h2 : r.left ≤ 9223372036854775807) :
    Calls Try.prog 28 #[.pointer (some ⟨b, 0, none⟩), .agg (ndV x).toArray] w fun e w' => e = .returned (.tuple #[]) ∧ BoxM w' b base (enterM x (r :: st)) ∧ Below D w w' := by
  obtain ⟨v, hb, hv, hvn⟩ := h
  obtain ⟨g, cap, rfl, hgb, hgf⟩ := World.ownsRow.form hv (by simp)
  obtain ⟨n, hn⟩ : ∃ n, n = st.length := ⟨_, rfl⟩
  unfold StkM at hv
  rw [List.reverse_cons, List.length_cons, ← hn] at hv
  rw [List.length_cons, ← hn] at hb
  rw [← hn] at hl
  have hrl : st.reverse.length = n := by rw [List.length_reverse, hn]
  have cb := cell_of_row w b 0 _ _ _ hb
  simp only [List.getElem?_toArray, List.getElem?_cons_zero] at cb
  have fb := frozen_of_row w b 0 _ _ hb
  have cl0 := rms_last st.reverse r 5 (by omega) (.int .i64 r.left) rfl
  rw [hrl] at cl0
  have cl := (hv.cellAt (n * 7 + 5) (by omega)).trans cl0
  clear cl0
  have fl := hv.frozenAt (n * 7 + 5)
  have ff := hv.frozenAt (n * 7 + 6)
  have hne : ¬ g = b := fun e => hvn (by rw [e]; rfl)
  have hne' : ¬ b = g := fun e => hne e.symm
  clear hvn
  obtain ⟨k, a, bb, c, d⟩ := x
  have hbl := (Array.getElem?_eq_some_iff.1 hb).1
  have hv1 := (hv.stored (n * 7 + 5) (.int .i64 (r.left - 1))).1.alloc (.cells #[.int .u8 k, .int .i64 a, .int .i64 bb, .int .i64 c, .int .i64 d] 35)
  have hx1 := heap_alloc_new (w.setCell ⟨g, n * 7 + 5, none⟩ (.int .i64 (r.left - 1))) (.cells #[.int .u8 k, .int .i64 a, .int .i64 bb, .int .i64 c, .int .i64 d] 35)
  have hB1 : Below D w ((w.setCell ⟨g, n * 7 + 5, none⟩ (.int .i64 (r.left - 1))).alloc (.cells #[.int .u8 k, .int .i64 a, .int .i64 bb, .int .i64 c, .int .i64 d] 35)) := ((Below.refl D w).setCell (by show D ≤ g; omega) _).alloc (by simp; omega) _
  have hb1 : ((w.setCell ⟨g, n * 7 + 5, none⟩ (.int .i64 (r.left - 1))).alloc (.cells #[.int .u8 k, .int .i64 a, .int .i64 bb, .int .i64 c, .int .i64 d] 35)).heap[b]? = some (.cells #[.slice (some ⟨g, 0, none⟩) (n + 1) cap] 37 (0, 0)) := by
    rw [heap_alloc_old (r := b) _ _ (by simp; omega), Below.heap_setCell _ _ _ _ (by show b ≠ g; omega)]; exact hb
  have hz1 : ((w.setCell ⟨g, n * 7 + 5, none⟩ (.int .i64 (r.left - 1))).alloc (.cells #[.int .u8 k, .int .i64 a, .int .i64 bb, .int .i64 c, .int .i64 d] 35)).heap.size = w.heap.size + 1 := by simp
  have hzs : (w.setCell ⟨g, n * 7 + 5, none⟩ (.int .i64 (r.left - 1))).heap.size = w.heap.size := by simp
  rw [hzs] at hx1
  have HV := Lib.hid hv1
  have HX := Lib.hid hx1
  have HB1 := Lib.hid hB1
  have HB := Lib.hid hb1
  have HZ := Lib.hid hz1
  have HN := Lib.hid hn
  have HRL := Lib.hid hrl
  clear hv hv1 hx1 hB1 hb1 hz1 hzs hn hrl hb
  simp only [ndV]
  go_enter Try.func28, Try.ntmps28
  go_wp2
  generalize (w.setCell ⟨g, n * 7 + 5, none⟩ (.int .i64 (r.left - 1))).alloc (.cells #[.int .u8 k, .int .i64 a, .int .i64 bb, .int .i64 c, .int .i64 d] 35) = W1 at HV HX HB1 HB HZ ⊢
  clear cb fb cl fl ff
  have cb := cell_of_row W1 b 0 _ _ _ HB.out
  have fb := frozen_of_row W1 b 0 _ _ HB.out
  have x0 := cell_of_row W1 _ 0 _ _ _ HX.out
  have x1 := cell_of_row W1 _ 1 _ _ _ HX.out
  have x2 := cell_of_row W1 _ 2 _ _ _ HX.out
  have x3 := cell_of_row W1 _ 3 _ _ _ HX.out
  have x4 := cell_of_row W1 _ 4 _ _ _ HX.out
  have ff := HV.out.frozenAt (n * 7 + 6)
  simp only [List.getElem?_toArray, List.getElem?_cons_zero, List.getElem?_cons_succ] at cb x0 x1 x2 x3 x4
  have w1 : IntKind.i64.wrap ((n : Int) + 1 - 1) = (n : Int) := by rw [IntKind.wrap_i64]; omega
  have w2 : IntKind.i64.wrap (n : Int) = (n : Int) := by rw [IntKind.wrap_i64]; omega
  have j0 : (0 : Int) ≤ n := by omega
  have j1 : (n : Int) < n + 1 := by omega
  go_still_tail 9, (by kernel_rfl)
  change wpList _ _ _ _ _ W1.drew
  have HV2 : Hid (W1.drew.ownsRow base 43 7 _ _ _) := Lib.hid HV.out.drew
  have HX2 : Hid (W1.drew.heap[w.heap.size]? = _) := Lib.hid HX.out
  have HB2 : Hid (W1.drew.heap[b]? = _) := Lib.hid HB.out
  have HL2 := Lib.hid HB1.out.drew
  have HZ2 : Hid (W1.drew.heap.size = w.heap.size + 1) := Lib.hid HZ.out
  have ff2 : W1.drew.frozen? ⟨g, n * 7 + 6, none⟩ = false := ff
  have cf0 := rms_last st.reverse r 6 (by omega) (.int .i64 r.fr) rfl
  rw [HRL.out] at cf0
  have cf2 := (HV2.out.cellAt (n * 7 + 6) (by omega)).trans ((List.getElem?_set_ne (by omega)).trans cf0)
  clear cb fb x0 x1 x2 x3 x4 ff HV HX HB HB1 HZ w1 w2 cf0
  generalize W1.drew = W2 at HV2 HX2 HB2 HL2 HZ2 ff2 cf2 ⊢
  go_wp2
  have hv3 := (HV2.out.stored (n * 7 + 6) (.int .i64 d)).1
  have hs3 := rms_set st.reverse r (r.left - 1) d
  rw [HRL.out] at hs3
  rw [hs3] at hv3
  have HV := Lib.hid hv3
  have HX := Lib.hid ((Below.heap_setCell W2 ⟨g, n * 7 + 6, none⟩ (.int .i64 d) w.heap.size (by show w.heap.size ≠ g; omega)).trans HX2.out)
  have HB := Lib.hid ((Below.heap_setCell W2 ⟨g, n * 7 + 6, none⟩ (.int .i64 d) b (by show b ≠ g; omega)).trans HB2.out)
  have HL := Lib.hid (HL2.out.setCell (p := ⟨g, n * 7 + 6, none⟩) (by show D ≤ g; omega) (.int .i64 d))
  have HZ : Hid ((W2.setCell ⟨g, n * 7 + 6, none⟩ (.int .i64 d)).heap.size = w.heap.size + 1) := Lib.hid (by simp; exact HZ2.out)
  clear hv3 hs3 HV2 HX2 HB2 HL2 HZ2 ff2 cf2
  generalize W2.setCell ⟨g, n * 7 + 6, none⟩ (.int .i64 d) = W3 at HV HX HB HL HZ ⊢
  have cb := cell_of_row W3 b 0 _ _ _ HB.out
  have x0 := cell_of_row W3 _ 0 _ _ _ HX.out
  have x1 := cell_of_row W3 _ 1 _ _ _ HX.out
  have x2 := cell_of_row W3 _ 2 _ _ _ HX.out
  have x3 := cell_of_row W3 _ 3 _ _ _ HX.out
  have x4 := cell_of_row W3 _ 4 _ _ _ HX.out
  simp only [List.getElem?_toArray, List.getElem?_cons_zero, List.getElem?_cons_succ] at cb x0 x1 x2 x3 x4
  obtain ⟨i0, hi, hy0, hy1, hy2⟩ := info_parts info43
  have HI := Lib.hid hi
  have H0 := Lib.hid hy0
  have HI1 := Lib.hid hy1
  have HI2 := Lib.hid hy2
  clear hi hy0 hy1 hy2
  have HO3 := Lib.hid (HV.out.alloc (.cells #[.int .u8 k, .int .i64 a, .int .i64 bb, .int .i64 c, .int .i64 d, .int .i64 a, .int .i64 c] 43)).drew
  have HG3 : Hid (∀ (w5 : World) (q : Option Nat), ((W3.alloc (.cells #[.int .u8 k, .int .i64 a, .int .i64 bb, .int .i64 c, .int .i64 d, .int .i64 a, .int .i64 c] 43)).drew).grownBy w5 q → q ≠ some b → w5.heap[b]? = W3.heap[b]?) := Lib.hid (fun w5 q hg hq => (hg.block b (by have := HZ.out; simp; omega) (fun e => hq e.symm)).trans (heap_alloc_old (r := b) _ _ (by have := HZ.out; omega)))
  have HK3 : Hid (∀ (w5 : World) (q : Option Nat), ((W3.alloc (.cells #[.int .u8 k, .int .i64 a, .int .i64 bb, .int .i64 c, .int .i64 d, .int .i64 a, .int .i64 c] 43)).drew).grownBy w5 q → (∀ k, q = some k → D ≤ k) → Below D w w5) := Lib.hid (fun w5 q hg hq => ((HL.out.alloc (by have := HZ.out; omega) _).drew).grown hg (by have := HZ.out; simp; omega) hq)
  have hbase3 : base ≤ W3.heap.size := (by have := HZ.out; omega)
  have hb3 : b < W3.heap.size := by have := HZ.out; omega
  have hb3n : ¬ b = W3.heap.size := by omega
  have hb3m : ¬ W3.heap.size = b := by omega
  go_region_law (refine step_append_lies _ rfl _ _ 37 rfl base 43 i0 (.agg #[.int .u8 0, .int .i64 0, .int .i64 0, .int .i64 0, .int .i64 0, .int .i64 0, .int .i64 0]) 7 56 Try.underlying37 HI.out H0.out HI1.out HI2.out rfl (by decide) (.slice (some ⟨g, 0, none⟩) (n + 1) cap) (n + 1) _ rfl HO3.out ⟨W3.heap.size, 0, none⟩ 1 1 [.int .u8 k, .int .i64 a, .int .i64 bb, .int .i64 c, .int .i64 d, .int .i64 a, .int .i64 c] rfl rfl (fun j u h => new_cells W3 43 #[.int .u8 k, .int .i64 a, .int .i64 bb, .int .i64 c, .int .i64 d, .int .i64 a, .int .i64 c] j u (by simpa using h)) (by intro u hu; simp at hu; rcases hu with rfl | rfl | rfl | rfl | rfl | rfl | rfl <;> rfl) (by omega) (by unfold maxLen; omega) (by omega) (by simp; omega) _ rfl ?_; intro g5 cap5 w5 hown5 hg5 hat hlt5; have HO5 := Lib.hid hown5; have HB5 := Lib.hid ((HG3.out _ _ hg5 (by simp [Value.ownBlock]; try omega)).trans HB.out); have HL5 := Lib.hid (HK3.out _ _ hg5 (by intro k hk; simp [Value.ownBlock] at hk; try omega)); have d5 := cell_of_one HB5.out; have d6 := free_of_one HB5.out; have hn5 : ¬ g5 = b := (by rcases hat with h | h <;> simp [Value.ownBlock] at h <;> omega); clear hown5 hg5 hat hlt5)
  all_goals
    go_wp2
    go_end0
    refine ⟨rfl, ⟨_, one_setCell HB5.out, ?_, by simp [Value.ownBlock]; exact hn5⟩, HL5.out.setCell (p := ⟨b, 0, none⟩) hD1 _⟩
    unfold StkM
    have ho := ownsRow_setCell_other HO5.out (a := ⟨b, 0, none⟩) (by simp [Value.ownBlock]; omega) (.slice (some ⟨g5, 0, none⟩) (n + 1 + 1) cap5)
    simp only [enterM, List.reverse_cons, List.length_cons, ← HN.out]
    rw [rmsV_app]
    exact ho
set_option maxRecDepth 100000 in
set_option maxHeartbeats 4000000 in
theorem enter_none (x : Nd) (w : World) (b base D : Nat) (hD1 : D ≤ b) (hbs : base ≤ w.heap.size) (hb : w.heap[b]? = some (.cells #[.slice none 0 0] 37 (0, 0))) :
    Calls Try.prog 28 #[.pointer (some ⟨b, 0, none⟩), .agg (ndV x).toArray] w fun e w' => e = .returned (.tuple #[]) ∧ BoxM w' b base (enterM x []) ∧ Below D w w' := by
  have hv : StkM w base (.slice none 0 0) [] := World.ownsRow_nil _ _ _ _
  obtain ⟨k, a, bb, c, d⟩ := x
  have hbl := (Array.getElem?_eq_some_iff.1 hb).1
  have hx1 := heap_alloc_new w (.cells #[.int .u8 k, .int .i64 a, .int .i64 bb, .int .i64 c, .int .i64 d] 35)
  have hB1 : Below D w (w.alloc (.cells #[.int .u8 k, .int .i64 a, .int .i64 bb, .int .i64 c, .int .i64 d] 35)) := (Below.refl D w).alloc (by omega) _
  have hb1 := (heap_alloc_old w (.cells #[.int .u8 k, .int .i64 a, .int .i64 bb, .int .i64 c, .int .i64 d] 35) hbl).trans hb
  have hz1 : (w.alloc (.cells #[.int .u8 k, .int .i64 a, .int .i64 bb, .int .i64 c, .int .i64 d] 35)).heap.size = w.heap.size + 1 := by simp
  have hv1 : StkM (w.alloc (.cells #[.int .u8 k, .int .i64 a, .int .i64 bb, .int .i64 c, .int .i64 d] 35)) base (.slice none 0 0) [] := hv.alloc _
  have hc0 := cell_of_one hb
  have HV := Lib.hid hv1
  have HX := Lib.hid hx1
  have HL := Lib.hid hB1
  have HB := Lib.hid hb1
  have HZ := Lib.hid hz1
  clear hv hv1 hx1 hB1 hb1 hz1 hb
  obtain ⟨i0, hi, hy0, hy1, hy2⟩ := info_parts info43
  have HI := Lib.hid hi
  have H0 := Lib.hid hy0
  have HI1 := Lib.hid hy1
  have HI2 := Lib.hid hy2
  clear hi hy0 hy1 hy2
  simp only [ndV]
  go_enter Try.func28, Try.ntmps28
  go_wp2
  generalize w.alloc (.cells #[.int .u8 k, .int .i64 a, .int .i64 bb, .int .i64 c, .int .i64 d] 35) = W3 at HV HX HB HL HZ ⊢
  clear hc0
  have cb := cell_of_row W3 b 0 _ _ _ HB.out
  have x0 := cell_of_row W3 _ 0 _ _ _ HX.out
  have x1 := cell_of_row W3 _ 1 _ _ _ HX.out
  have x2 := cell_of_row W3 _ 2 _ _ _ HX.out
  have x3 := cell_of_row W3 _ 3 _ _ _ HX.out
  have x4 := cell_of_row W3 _ 4 _ _ _ HX.out
  simp only [List.getElem?_toArray, List.getElem?_cons_zero, List.getElem?_cons_succ] at cb x0 x1 x2 x3 x4
  have HO3 := Lib.hid (HV.out.alloc (.cells #[.int .u8 k, .int .i64 a, .int .i64 bb, .int .i64 c, .int .i64 d, .int .i64 a, .int .i64 c] 43)).drew
  have HG3 : Hid (∀ (w5 : World) (q : Option Nat), ((W3.alloc (.cells #[.int .u8 k, .int .i64 a, .int .i64 bb, .int .i64 c, .int .i64 d, .int .i64 a, .int .i64 c] 43)).drew).grownBy w5 q → q ≠ some b → w5.heap[b]? = W3.heap[b]?) := Lib.hid (fun w5 q hg hq => (hg.block b (by have := HZ.out; simp; omega) (fun e => hq e.symm)).trans (heap_alloc_old (r := b) _ _ (by have := HZ.out; omega)))
  have HK3 : Hid (∀ (w5 : World) (q : Option Nat), ((W3.alloc (.cells #[.int .u8 k, .int .i64 a, .int .i64 bb, .int .i64 c, .int .i64 d, .int .i64 a, .int .i64 c] 43)).drew).grownBy w5 q → (∀ k, q = some k → D ≤ k) → Below D w w5) := Lib.hid (fun w5 q hg hq => ((HL.out.alloc (by have := HZ.out; omega) _).drew).grown hg (by have := HZ.out; simp; omega) hq)
  have hbase3 : base ≤ W3.heap.size := (by have := HZ.out; omega)
  have hb3 : b < W3.heap.size := by have := HZ.out; omega
  have hb3n : ¬ b = W3.heap.size := by omega
  have hb3m : ¬ W3.heap.size = b := by omega
  go_region_law (refine step_append_lies _ rfl _ _ 37 rfl base 43 i0 (.agg #[.int .u8 0, .int .i64 0, .int .i64 0, .int .i64 0, .int .i64 0, .int .i64 0, .int .i64 0]) 7 56 Try.underlying37 HI.out H0.out HI1.out HI2.out rfl (by decide) (.slice none 0 0) 0 _ rfl HO3.out ⟨W3.heap.size, 0, none⟩ 1 1 [.int .u8 k, .int .i64 a, .int .i64 bb, .int .i64 c, .int .i64 d, .int .i64 a, .int .i64 c] rfl rfl (fun j u h => new_cells W3 43 #[.int .u8 k, .int .i64 a, .int .i64 bb, .int .i64 c, .int .i64 d, .int .i64 a, .int .i64 c] j u (by simpa using h)) (by intro u hu; simp at hu; rcases hu with rfl | rfl | rfl | rfl | rfl | rfl | rfl <;> rfl) (by omega) (by unfold maxLen; omega) (by omega) (by simp; omega) _ rfl ?_; intro g5 cap5 w5 hown5 hg5 hat hlt5; have HO5 := Lib.hid hown5; have HB5 := Lib.hid ((HG3.out _ _ hg5 (by simp [Value.ownBlock]; try omega)).trans HB.out); have HL5 := Lib.hid (HK3.out _ _ hg5 (by intro k hk; simp [Value.ownBlock] at hk; try omega)); have d5 := cell_of_one HB5.out; have d6 := free_of_one HB5.out; have hn5 : ¬ g5 = b := (by rcases hat with h | h <;> simp [Value.ownBlock] at h <;> omega); clear hown5 hg5 hat hlt5)
  all_goals
    go_wp2
    go_end0
    refine ⟨rfl, ⟨_, one_setCell HB5.out, ?_, by simp [Value.ownBlock]; exact hn5⟩, HL5.out.setCell (p := ⟨b, 0, none⟩) hD1 _⟩
    unfold StkM
    exact ownsRow_setCell_other HO5.out (a := ⟨b, 0, none⟩) (by simp [Value.ownBlock]; omega) _
end Go.Proofs.Ytdlpminekojahaa
