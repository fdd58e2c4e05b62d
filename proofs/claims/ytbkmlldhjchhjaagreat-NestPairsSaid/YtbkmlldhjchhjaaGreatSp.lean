/-
  Layer 7: contracts of scan.All and of the document's All.
-/
import Derived.Test.YtbkmlldhjchhjaaGreatSo
namespace Go.Proofs.YtbkmlldhjchhjaaGreat
open Go.ChangeShapes Go.WideShapes Go.ChangeAt Go.RowKit

/-- the lexemes from a place on, and the place where none begins -/
def toks (l : List UInt8) : Nat → Nat → List (Nat × Nat × Nat) × Option Nat
  | 0, _ => ([], none)
  | f + 1, p => if p < l.length then (if (lexV l p).1 = 0 then ([], some p) else (((lexV l p).1, p, (lexV l p).2) :: (toks l f (lexV l p).2).1, (toks l f (lexV l p).2).2)) else ([], none)
theorem toks_step (l : List UInt8) (f p : Nat) (h : p < l.length) : toks l (f + 1) p = if (lexV l p).1 = 0 then ([], some p) else (((lexV l p).1, p, (lexV l p).2) :: (toks l f (lexV l p).2).1, (toks l f (lexV l p).2).2) := by
  conv => lhs; unfold toks
  rw [if_pos h]
theorem toks_end (l : List UInt8) (f p : Nat) (h : ¬ p < l.length) : toks l f p = ([], none) := by
  cases f with
  | zero => rfl
  | succ f => unfold toks; rw [if_neg h]
/-- all lexemes of a text, and the fault, in the document's words -/
def allAns (l : List UInt8) : List (Nat × Nat × Nat) × Int × Int :=
  if 65536 < l.length then ([], 2, 0)
  else if 0 ≤ cleanAt l l.length 0 then ([], 3, cleanAt l l.length 0)
  else (toks l l.length 0).2.elim ((toks l l.length 0).1, 0, 0) (fun p => ([], 4, (p : Int)))
def tcells (T : List (Nat × Nat × Nat)) : List Value := T.flatMap fun x => [.int .u8 x.1, .int .i64 x.2.1, .int .i64 x.2.2]
theorem tcells_app (a b : List (Nat × Nat × Nat)) : tcells (a ++ b) = tcells a ++ tcells b := by simp [tcells]
def OwnT (w : World) (B : Nat) (v : Value) (T : List (Nat × Nat × Nat)) : Prop := w.ownsRow B 40 3 v T.length (tcells T)
theorem toks_below {w w' : World} {B : Nat} {v : Value} {T : List (Nat × Nat × Nat)} (h : OwnT w B v T) (hB : Below w.heap.size w w') : OwnT w' B v T := by
  refine ⟨h.1, ?_⟩
  rcases h.2 with h | ⟨g, cap, cur, e, hb, hg, r⟩
  · exact .inl h
  · exact .inr ⟨g, cap, cur, e, hb, by rw [hB.block g (Array.getElem?_eq_some_iff.1 hg).1]; exact hg, r⟩
theorem toks_mono {w : World} {B B' : Nat} {v : Value} {T : List (Nat × Nat × Nat)} (h : OwnT w B v T) (hb : B' ≤ B) : OwnT w B' v T :=
  ⟨h.1, h.2.imp id fun ⟨g, cap, cur, h1, h2, h3⟩ => ⟨g, cap, cur, h1, Nat.le_trans hb h2, h3⟩⟩
theorem toks_own {w : World} {g : Nat} {v : Value} {T : List (Nat × Nat × Nat)} {cs : Array Value} (h : OwnT w (g + 1) v T) : OwnT (w.setRow g cs) (g + 1) v T := by
  refine ⟨h.1, ?_⟩
  rcases h.2 with h | ⟨g', cap, cur, e, hb, hg', r⟩
  · exact .inl h
  · exact .inr ⟨g', cap, cur, e, hb, by rw [setRow_other w g g' cs (by omega)]; exact hg', r⟩
def AllOf (B : Nat) (R : List (Nat × Nat × Nat) × Int × Int) (e : Ending) (w' : World) : Prop := ∃ v, e = .returned (.tuple #[v, .agg #[.int .i64 R.2.1, .int .i64 R.2.2]]) ∧ OwnT w' B v R.1
theorem three_new (w : World) (x y z : Value) (t : TypeId) : ∀ j u, [x, y, z][j]? = some u → (w.alloc (.cells #[x, y, z] t)).cell? ((⟨w.heap.size, 0, none⟩ : Addr).add j) = some u := by
  intro j u hj
  match j, hj with
  | 0, hj => simp at hj; subst hj; simp [Addr.add]
  | 1, hj => simp at hj; subst hj; simp [Addr.add]
  | 2, hj => simp at hj; subst hj; simp [Addr.add]
  | j + 3, hj => simp at hj
theorem results_tmp_row {fn : Func} {p u : Tmp} {ty : TypeId} {P : Program} (h : fn.results = #[.tmp u, .cell p ty]) (tmps : Array Value) (w : World) (g : Nat) (cs : Array Value) (e : Value)
    (hp : tmps.getD p undef = .pointer (some ⟨g, 0, none⟩)) (he : tmps.getD u undef = e) (hl : (loadVar ty ⟨g, 0, none⟩).run P w = .ok (.agg cs) w) :
    (results fn tmps).run P w = .ok (.tuple #[e, .agg cs]) w := by
  have hp' : tmps[p]?.getD undef = .pointer (some ⟨g, 0, none⟩) := by simpa using hp
  have he' : tmps[u]?.getD undef = e := by simpa using he
  simp [results, h, Result.andThen, asAddr, hp', he', hl]
theorem info33 : (Tryz.prog.info? 26).map (·.size) = some 2 := by kernel_rfl
theorem info26z : (Tryz.prog.info? 40).map (fun i => (i.zero, i.size, i.bytes)) = some (some (.agg #[.int .u8 0, .int .i64 0, .int .i64 0]), 3, 24) := by kernel_rfl
set_option maxRecDepth 100000 in
set_option maxHeartbeats 8000000 in
theorem all_any (s : ByteArray) (w : World) (hM : Mx w) :
    Calls Tryz.prog 15 #[.string s] w fun e w' => AllOf w.heap.size (allAns s.data.toList) e w' ∧ Below w.heap.size w w' := by
  obtain ⟨i0, hi, hy0, hy1, hy2⟩ := info_parts info26z
  have HM := Lib.hid (hM.alloc (.cells #[.int .i64 0, .int .i64 0] 26))
  have hB0 : Below w.heap.size w (w.alloc (.cells #[.int .i64 0, .int .i64 0] 26)) := (Below.refl _ _).alloc (Nat.le_refl _) _
  have hh0 : (w.alloc (.cells #[.int .i64 0, .int .i64 0] 26)).heap[w.heap.size]? = some (.cells #[.int .i64 0, .int .i64 0] 26) := heap_alloc_new w _
  have hz0 : (w.alloc (.cells #[.int .i64 0, .int .i64 0] 26)).heap.size = w.heap.size + 1 := by simp
  have HB0 := Lib.hid hB0
  have HH0 := Lib.hid hh0
  have HZ0 := Lib.hid hz0
  clear hB0 hh0 hz0
  have hl : s.data.toList.length = s.size := by simp
  by_cases hbig : 65536 < s.size
  · have hA : allAns s.data.toList = ([], 2, 0) := by unfold allAns; rw [if_pos (by omega)]
    rw [hA]
    have i1 : (65536 : Int) < s.size := by omega
    clear hA hM
    go_enter Tryz.func15, Tryz.ntmps15
    go_wp2_with (refine wpList_store_rowTo rfl 26 (.tmp 3) (.tmp 12) rfl rfl w.heap.size #[.int .i64 2, .int .i64 0] rfl rfl 26 #[.int .i64 0, .int .i64 0] HH0.out info33 rfl (by simp [Value.oneCell']) ?_)
    (try simp only [Exit.inBlock, Exit.then])
    refine bodyPost_ret (v := .tuple #[_, .agg #[.int .i64 2, .int .i64 0]]) (results_tmp_row (u := 2) (p := 3) rfl _ _ w.heap.size #[.int .i64 2, .int .i64 0] _ rfl rfl (run_loadVar_row _ w.heap.size 26 26 #[.int .i64 2, .int .i64 0] (0, 0) _ (setRow_heap _ _ _ _ _ _ HH0.out) Tryz.underlying26 rfl info33)) rfl ⟨⟨_, rfl, ?_⟩, below_setRow HB0.out (Nat.le_refl _) _⟩
    exact World.ownsRow_nil _ _ _ _
  have i1 : ¬ (65536 : Int) < s.size := by omega
  have hcn := fun w => clean_any s (by unfold maxLen; omega) w
  have FIRST := True.intro
  rcases (cleanAt_ge s.data.toList s.size 0).symm with hcl | hcl
  · have hA : allAns s.data.toList = ([], 3, cleanAt s.data.toList s.size 0) := by unfold allAns; rw [if_neg (by omega), hl, if_pos hcl]
    rw [hA]
    obtain ⟨C, hC⟩ : ∃ C, C = cleanAt s.data.toList s.size 0 := ⟨_, rfl⟩
    rw [← hC] at hcn hcl
    rw [← hC]
    clear hA hC hM
    go_enter Tryz.func15, Tryz.ntmps15
    go_wp2_with (first
      | (go_at_call 25; refine (hcn _).mono ?_; rintro e w1 ⟨rfl, hB⟩; replace hB := hB.mono (show w.heap.size + 1 ≤ _ by rw [HZ0.out]; exact Nat.le_refl _))
      | (refine wpList_store_rowTo rfl 26 (.tmp 3) (.tmp 18) rfl rfl w.heap.size #[.int .i64 3, .int .i64 C] rfl rfl 26 #[.int .i64 0, .int .i64 0] ((hB.block w.heap.size (by omega)).trans HH0.out) info33 rfl (by simp [Value.oneCell']) ?_))
    (try simp only [Exit.inBlock, Exit.then])
    refine bodyPost_ret (v := .tuple #[_, .agg #[.int .i64 3, .int .i64 C]]) (results_tmp_row (u := 2) (p := 3) rfl _ _ w.heap.size #[.int .i64 3, .int .i64 C] _ rfl rfl (run_loadVar_row _ w.heap.size 26 26 #[.int .i64 3, .int .i64 C] (0, 0) _ (setRow_heap _ _ _ _ _ _ ((hB.block w.heap.size (by omega)).trans HH0.out)) Tryz.underlying26 rfl info33)) rfl ⟨⟨_, rfl, ?_⟩, below_setRow (HB0.out.trans (hB.mono (by omega))) (Nat.le_refl _) _⟩
    exact World.ownsRow_nil _ _ _ _
  rw [hcl] at hcn
  obtain ⟨A, hA⟩ : ∃ A, A = toks s.data.toList s.size 0 := ⟨_, rfl⟩
  obtain ⟨R, hR⟩ : ∃ R, R = allAns s.data.toList := ⟨_, rfl⟩
  have hR0 : R = A.2.elim (A.1, 0, 0) (fun p => ([], 4, (p : Int))) := by rw [hR]; unfold allAns; rw [if_neg (by omega), hl, hcl, if_neg (by decide), hA]
  rw [← hR]
  have HRR := Lib.hid hR0
  have HA := Lib.hid (show A.1 = [] ++ (toks s.data.toList s.size 0).1 ∧ A.2 = (toks s.data.toList s.size 0).2 by rw [hA]; exact ⟨rfl, rfl⟩)
  have HC := Lib.hid (show ∀ g, s.data.toList.length - 0 ≤ g → cleanAt s.data.toList g 0 = -1 from fun g hg => by rw [← cleanAt_fuel s.data.toList s.size g 0 (by omega) hg]; exact hcl)
  clear hA hR hR0 hcl
  clear hM
  go_enter Tryz.func15, Tryz.ntmps15
  go_wp2_with (first
    | (go_at_call 25; clear FIRST; refine (hcn _).mono ?_; rintro e w1 ⟨rfl, hB⟩; replace hB := hB.mono (show w.heap.size + 1 ≤ _ by rw [HZ0.out]; exact Nat.le_refl _))
    | go_step3)
  go_loopw [5, 6] (fun v iv wr => ∃ (k f : Nat) (T : List (Nat × Nat × Nat)), k ≤ s.size ∧ s.size - k ≤ f ∧ T.length ≤ k ∧ iv = .int .i64 k ∧ OwnT wr (w.heap.size + 1) v T ∧ Below (w.heap.size + 1) (w.alloc (.cells #[.int .i64 0, .int .i64 0] 26)) wr ∧ Hid (∀ g, s.data.toList.length - k ≤ g → cleanAt s.data.toList g k = -1) ∧ Hid (A.1 = T ++ (toks s.data.toList f k).1 ∧ A.2 = (toks s.data.toList f k).2)) (fun _ iv _ => s.size - (intOf iv).toNat)
  case atStart => exact ⟨0, s.size, [], by omega, by omega, by simp, rfl, World.ownsRow_nil _ _ _ _, hB, HC, HA⟩
  case round =>
    clear hB
    obtain ⟨k, f, T, hks, hf, hTl, rfl, hO, hB, hC, hT⟩ := hrel
    have hbs := hB.size
    rw [HZ0.out] at hbs
    have hvq := fun q hq => (hO.lt q hq).2
    by_cases hk : k < s.size
    · have j1 : (k : Int) < s.size := by omega
      have hlx := fun w hM => plexeme_any s (by omega) k hk (s.data.toList.length) (by omega) (hC.out _ (by omega)) w hM
      have hend := lexV_end (hC.out s.data.toList.length (by omega)) (by omega) (show k < s.data.toList.length by omega)
      obtain ⟨g, rfl⟩ : ∃ g, f = g + 1 := ⟨f - 1, by omega⟩
      have hst := toks_step s.data.toList g k (by omega)
      obtain ⟨p, hp⟩ : ∃ p, p = lexV s.data.toList k := ⟨_, rfl⟩
      rw [← hp] at hlx hend hst
      obtain ⟨K, z⟩ := p
      clear hp
      by_cases hk0 : K = 0
      · rw [if_pos hk0] at hst
        have hRk : R = ([], 4, (k : Int)) := by rw [HRR.out, hT.out.2, hst]; rfl
        rw [show tokRow k (K, z) = #[.int .u8 0, .int .i64 0, .int .i64 0] by unfold tokRow; rw [if_pos hk0], show tokErr (K, z) = 4 by unfold tokErr; rw [if_pos hk0]] at hlx
        subst hRk
        clear hk0 hst hend hC hT HRR HA HC
        go_wp2_with (first
          | (go_at_call 26; refine (hlx _ (HM.out.below hB (by omega))).mono ?_; rintro e w1 ⟨rfl, hB1⟩)
          | (refine wpList_store_rowTo rfl 40 (.tmp 7) (.tmp 27) rfl rfl w1.heap.size #[.int .u8 0, .int .i64 0, .int .i64 0] rfl rfl 40 #[.int .u8 0, .int .i64 0, .int .i64 0] (heap_alloc_new w1 _) info26 rfl (by simp [Value.oneCell']) ?_; have hX2 := setRow_heap _ w1.heap.size _ #[.int .u8 0, .int .i64 0, .int .i64 0] _ _ (heap_alloc_new w1 (.cells #[.int .u8 0, .int .i64 0, .int .i64 0] 40)); have hz5 : w1.heap.size < ((w1.alloc (.cells #[.int .u8 0, .int .i64 0, .int .i64 0] 40)).setRow w1.heap.size #[.int .u8 0, .int .i64 0, .int .i64 0]).heap.size := (Array.getElem?_eq_some_iff.1 hX2).1; have hz6 := hB1.size; have hB4 : Below wr.heap.size wr _ := below_setRow (hB1.alloc hB1.size (.cells #[.int .u8 0, .int .i64 0, .int .i64 0] 40)) hB1.size #[.int .u8 0, .int .i64 0, .int .i64 0]; generalize (w1.alloc (.cells #[.int .u8 0, .int .i64 0, .int .i64 0] 40)).setRow w1.heap.size #[.int .u8 0, .int .i64 0, .int .i64 0] = w2 at hX2 hB4 hz5 ⊢; clear hB1; replace hO := toks_below hO hB4; have hB := hB.trans (hB4.mono hbs); clear hB4; have e0 := cell_of_row w2 w1.heap.size 0 _ _ _ hX2; have e1 := cell_of_row w2 w1.heap.size 1 _ _ _ hX2; have e2 := cell_of_row w2 w1.heap.size 2 _ _ _ hX2; simp only [List.getElem?_toArray, List.getElem?_cons_zero, List.getElem?_cons_succ] at e0 e1 e2; clear hX2)
          | (refine wpList_store_rowTo rfl 26 (.tmp 3) (.tmp 33) rfl rfl w.heap.size #[.int .i64 4, .int .i64 k] rfl rfl 26 #[.int .i64 0, .int .i64 0] ((hB.block w.heap.size (by omega)).trans HH0.out) info33 rfl (by simp [Value.oneCell']) ?_))
        (try simp only [Exit.inBlock, Exit.then])
        refine bodyPost_ret (v := .tuple #[_, .agg #[.int .i64 4, .int .i64 k]]) (results_tmp_row (u := 2) (p := 3) rfl _ _ w.heap.size #[.int .i64 4, .int .i64 k] _ rfl rfl (run_loadVar_row _ w.heap.size 26 26 #[.int .i64 4, .int .i64 k] (0, 0) _ (setRow_heap _ _ _ _ _ _ ((hB.block w.heap.size (by omega)).trans HH0.out)) Tryz.underlying26 rfl info33)) rfl ⟨⟨_, rfl, ?_⟩, below_setRow (HB0.out.trans (hB.mono (by omega))) (Nat.le_refl _) _⟩
        exact World.ownsRow_nil _ _ _ _
      · rw [if_neg hk0] at hst
        obtain ⟨hz1, hz2, hz3⟩ := hend hk0
        have hz1 : k < z := hz1
        have hz2 : z ≤ s.size := by rw [← hl]; exact hz2
        rw [show tokRow k (K, z) = #[.int .u8 K, .int .i64 k, .int .i64 z] by unfold tokRow; rw [if_neg hk0], show tokErr (K, z) = 0 by unfold tokErr; rw [if_neg hk0]] at hlx
        have HC2 := Lib.hid hz3
        have HT2 := Lib.hid (show A.1 = (T ++ [(K, k, z)]) ++ (toks s.data.toList g z).1 ∧ A.2 = (toks s.data.toList g z).2 by
          obtain ⟨t1, t2⟩ := hT.out
          rw [hst] at t1 t2
          exact ⟨by rw [t1, List.append_assoc]; rfl, t2⟩)
        clear hk0 hst hend hz3 hC hT HRR HA HC
        go_wp2_with (first
          | (go_at_call 26; refine (hlx _ (HM.out.below hB (by omega))).mono ?_; rintro e w1 ⟨rfl, hB1⟩)
          | (refine wpList_store_rowTo rfl 40 (.tmp 7) (.tmp 27) rfl rfl w1.heap.size #[.int .u8 K, .int .i64 k, .int .i64 z] rfl rfl 40 #[.int .u8 0, .int .i64 0, .int .i64 0] (heap_alloc_new w1 _) info26 rfl (by simp [Value.oneCell']) ?_; have hX2 := setRow_heap _ w1.heap.size _ #[.int .u8 K, .int .i64 k, .int .i64 z] _ _ (heap_alloc_new w1 (.cells #[.int .u8 0, .int .i64 0, .int .i64 0] 40)); have hz5 : w1.heap.size < ((w1.alloc (.cells #[.int .u8 0, .int .i64 0, .int .i64 0] 40)).setRow w1.heap.size #[.int .u8 K, .int .i64 k, .int .i64 z]).heap.size := (Array.getElem?_eq_some_iff.1 hX2).1; have hz6 := hB1.size; have hB4 : Below wr.heap.size wr _ := below_setRow (hB1.alloc hB1.size (.cells #[.int .u8 0, .int .i64 0, .int .i64 0] 40)) hB1.size #[.int .u8 K, .int .i64 k, .int .i64 z]; generalize (w1.alloc (.cells #[.int .u8 0, .int .i64 0, .int .i64 0] 40)).setRow w1.heap.size #[.int .u8 K, .int .i64 k, .int .i64 z] = w2 at hX2 hB4 hz5 ⊢; clear hB1; replace hO := toks_below hO hB4; have hB := hB.trans (hB4.mono hbs); clear hB4; have e0 := cell_of_row w2 w1.heap.size 0 _ _ _ hX2; have e1 := cell_of_row w2 w1.heap.size 1 _ _ _ hX2; have e2 := cell_of_row w2 w1.heap.size 2 _ _ _ hX2; simp only [List.getElem?_toArray, List.getElem?_cons_zero, List.getElem?_cons_succ] at e0 e1 e2; clear hX2)
          | (at_builtin; refine wpList_append_own _ rfl _ _ 23 rfl (w.heap.size + 1) 40 i0 (.agg #[.int .u8 0, .int .i64 0, .int .i64 0]) 3 24 Tryz.underlying23 hi hy0 hy1 hy2 rfl (by decide) _ _ _ rfl (hO.alloc _) ⟨w2.heap.size, 0, none⟩ 1 1 [.int .u8 K, .int .i64 k, .int .i64 z] rfl rfl ?c1 ?c2 ?c3 ?c4 ?c5 ?_))
        case c1 => exact three_new _ _ _ _ _
        case c2 => intro u hu; simp at hu; rcases hu with rfl | rfl | rfl <;> rfl
        case c3 => unfold maxLen; omega
        case c4 => omega
        case c5 => have := hB.size; simp; rw [HZ0.out] at this; omega
        · intro v3 w4 hown3 hg3 _
          have hM3 : OwnT w4 (w.heap.size + 1) v3 (T ++ [(K, k, z)]) := by
            unfold OwnT
            rw [tcells_app, List.length_append]
            exact hown3
          have hB5 : Below (w.heap.size + 1) (w.alloc (.cells #[.int .i64 0, .int .i64 0] 26)) w4 := (hB.alloc (by have := hB.size; rw [HZ0.out] at this; exact this) _).grown hg3 (by have := hB.size; rw [HZ0.out] at this; simp; omega) (fun q hq => by have := (hO.lt q hq).1; omega)
          have f2 : w4.cell? ⟨w1.heap.size, 2, none⟩ = some (.int .i64 z) :=
            (hg3.cell_far ⟨w1.heap.size, 2, none⟩ (by simp; omega) (fun h => by have h2 : w1.heap.size < wr.heap.size := hvq _ h.symm; omega)).trans ((World.cell?_alloc_lt _ _ _ hz5).trans e2)
          clear hg3 hown3 hO hB
          go_wp2
          go_roundw
          case rel => exact ⟨z, g, T ++ [(K, k, z)], hz2, by omega, by simp; omega, by go_num, hM3, hB5, HC2, HT2⟩
          case measure => simp [intOf]; omega
    · obtain rfl : k = s.size := by omega
      have hTT : R = (T, 0, 0) := by
        obtain ⟨t1, t2⟩ := hT.out
        rw [toks_end _ _ _ (by omega)] at t1 t2
        rw [HRR.out, t2, t1]; simp
      subst hTT
      clear hT hC HRR HA HC
      go_wp2_with (refine wpList_store_rowTo rfl 26 (.tmp 3) (.tmp 41) rfl rfl w.heap.size #[.int .i64 0, .int .i64 0] rfl rfl 26 #[.int .i64 0, .int .i64 0] ((hB.block w.heap.size (by omega)).trans HH0.out) info33 rfl (by simp [Value.oneCell']) ?_)
      (try simp only [Exit.inBlock, Exit.then])
      refine bodyPost_ret (v := .tuple #[_, .agg #[.int .i64 0, .int .i64 0]]) (results_tmp_row (u := 2) (p := 3) rfl _ _ w.heap.size #[.int .i64 0, .int .i64 0] _ rfl rfl (run_loadVar_row _ w.heap.size 26 26 #[.int .i64 0, .int .i64 0] (0, 0) _ (setRow_heap _ _ _ _ _ _ ((hB.block w.heap.size (by omega)).trans HH0.out)) Tryz.underlying26 rfl info33)) rfl ⟨⟨_, rfl, ?_⟩, below_setRow (HB0.out.trans (hB.mono (by omega))) (Nat.le_refl _) _⟩
      exact toks_mono (toks_own hO) (Nat.le_succ _)
set_option maxRecDepth 100000 in
set_option maxHeartbeats 8000000 in
theorem rall_any (s : ByteArray) (w : World) :
    Calls Tryz.prog 19 #[.string s] w fun e w' => AllOf w.heap.size (allAns s.data.toList) e w' ∧ Below w.heap.size w w' := by
  obtain ⟨i0, hi, hy0, hy1, hy2⟩ := info_parts info26z
  have hB0 : Below w.heap.size w (w.alloc (.cells #[.int .i64 0, .int .i64 0] 26)) := (Below.refl _ _).alloc (Nat.le_refl _) _
  have hh0 : (w.alloc (.cells #[.int .i64 0, .int .i64 0] 26)).heap[w.heap.size]? = some (.cells #[.int .i64 0, .int .i64 0] 26) := heap_alloc_new w _
  have hz0 : (w.alloc (.cells #[.int .i64 0, .int .i64 0] 26)).heap.size = w.heap.size + 1 := by simp
  have HB0 := Lib.hid hB0
  have HH0 := Lib.hid hh0
  have HZ0 := Lib.hid hz0
  clear hB0 hh0 hz0
  have hl : s.data.toList.length = s.size := by simp
  by_cases hbig : 65536 < s.size
  · have hA : allAns s.data.toList = ([], 2, 0) := by unfold allAns; rw [if_pos (by omega)]
    rw [hA]
    have i1 : (65536 : Int) < s.size := by omega
    clear hA
    go_enter Tryz.func19, Tryz.ntmps19
    go_wp2_with (refine wpList_store_rowTo rfl 26 (.tmp 3) (.tmp 12) rfl rfl w.heap.size #[.int .i64 2, .int .i64 0] rfl rfl 26 #[.int .i64 0, .int .i64 0] HH0.out info33 rfl (by simp [Value.oneCell']) ?_)
    (try simp only [Exit.inBlock, Exit.then])
    refine bodyPost_ret (v := .tuple #[_, .agg #[.int .i64 2, .int .i64 0]]) (results_tmp_row (u := 2) (p := 3) rfl _ _ w.heap.size #[.int .i64 2, .int .i64 0] _ rfl rfl (run_loadVar_row _ w.heap.size 26 26 #[.int .i64 2, .int .i64 0] (0, 0) _ (setRow_heap _ _ _ _ _ _ HH0.out) Tryz.underlying26 rfl info33)) rfl ⟨⟨_, rfl, ?_⟩, below_setRow HB0.out (Nat.le_refl _) _⟩
    exact World.ownsRow_nil _ _ _ _
  have i1 : ¬ (65536 : Int) < s.size := by omega
  have hcn := fun w => rclean_any s (by unfold maxLen; omega) w
  have FIRST := True.intro
  rcases (cleanAt_ge s.data.toList s.size 0).symm with hcl | hcl
  · have hA : allAns s.data.toList = ([], 3, cleanAt s.data.toList s.size 0) := by unfold allAns; rw [if_neg (by omega), hl, if_pos hcl]
    rw [hA]
    obtain ⟨C, hC⟩ : ∃ C, C = cleanAt s.data.toList s.size 0 := ⟨_, rfl⟩
    rw [← hC] at hcn hcl
    rw [← hC]
    clear hA hC
    go_enter Tryz.func19, Tryz.ntmps19
    go_wp2_with (first
      | (go_at_call 28; refine (hcn _).mono ?_; rintro e w1 ⟨rfl, hB⟩; replace hB := hB.mono (show w.heap.size + 1 ≤ _ by rw [HZ0.out]; exact Nat.le_refl _))
      | (refine wpList_store_rowTo rfl 26 (.tmp 3) (.tmp 18) rfl rfl w.heap.size #[.int .i64 3, .int .i64 C] rfl rfl 26 #[.int .i64 0, .int .i64 0] ((hB.block w.heap.size (by omega)).trans HH0.out) info33 rfl (by simp [Value.oneCell']) ?_))
    (try simp only [Exit.inBlock, Exit.then])
    refine bodyPost_ret (v := .tuple #[_, .agg #[.int .i64 3, .int .i64 C]]) (results_tmp_row (u := 2) (p := 3) rfl _ _ w.heap.size #[.int .i64 3, .int .i64 C] _ rfl rfl (run_loadVar_row _ w.heap.size 26 26 #[.int .i64 3, .int .i64 C] (0, 0) _ (setRow_heap _ _ _ _ _ _ ((hB.block w.heap.size (by omega)).trans HH0.out)) Tryz.underlying26 rfl info33)) rfl ⟨⟨_, rfl, ?_⟩, below_setRow (HB0.out.trans (hB.mono (by omega))) (Nat.le_refl _) _⟩
    exact World.ownsRow_nil _ _ _ _
  rw [hcl] at hcn
  obtain ⟨A, hA⟩ : ∃ A, A = toks s.data.toList s.size 0 := ⟨_, rfl⟩
  obtain ⟨R, hR⟩ : ∃ R, R = allAns s.data.toList := ⟨_, rfl⟩
  have hR0 : R = A.2.elim (A.1, 0, 0) (fun p => ([], 4, (p : Int))) := by rw [hR]; unfold allAns; rw [if_neg (by omega), hl, hcl, if_neg (by decide), hA]
  rw [← hR]
  have HRR := Lib.hid hR0
  have HA := Lib.hid (show A.1 = [] ++ (toks s.data.toList s.size 0).1 ∧ A.2 = (toks s.data.toList s.size 0).2 by rw [hA]; exact ⟨rfl, rfl⟩)
  have HC := Lib.hid (show ∀ g, s.data.toList.length - 0 ≤ g → cleanAt s.data.toList g 0 = -1 from fun g hg => by rw [← cleanAt_fuel s.data.toList s.size g 0 (by omega) hg]; exact hcl)
  clear hA hR hR0 hcl
  go_enter Tryz.func19, Tryz.ntmps19
  go_wp2_with (first
    | (go_at_call 28; clear FIRST; refine (hcn _).mono ?_; rintro e w1 ⟨rfl, hB⟩; replace hB := hB.mono (show w.heap.size + 1 ≤ _ by rw [HZ0.out]; exact Nat.le_refl _))
    | go_step3)
  go_loopw [5, 6] (fun v iv wr => ∃ (k f : Nat) (T : List (Nat × Nat × Nat)), k ≤ s.size ∧ s.size - k ≤ f ∧ T.length ≤ k ∧ iv = .int .i64 k ∧ OwnT wr (w.heap.size + 1) v T ∧ Below (w.heap.size + 1) (w.alloc (.cells #[.int .i64 0, .int .i64 0] 26)) wr ∧ Hid (∀ g, s.data.toList.length - k ≤ g → cleanAt s.data.toList g k = -1) ∧ Hid (A.1 = T ++ (toks s.data.toList f k).1 ∧ A.2 = (toks s.data.toList f k).2)) (fun _ iv _ => s.size - (intOf iv).toNat)
  case atStart => exact ⟨0, s.size, [], by omega, by omega, by simp, rfl, World.ownsRow_nil _ _ _ _, hB, HC, HA⟩
  case round =>
    clear hB
    obtain ⟨k, f, T, hks, hf, hTl, rfl, hO, hB, hC, hT⟩ := hrel
    have hbs := hB.size
    rw [HZ0.out] at hbs
    have hvq := fun q hq => (hO.lt q hq).2
    by_cases hk : k < s.size
    · have j1 : (k : Int) < s.size := by omega
      have hlx := fun w => lexeme_any s (by omega) k hk w
      unfold lexAns at hlx
      have hend := lexV_end (hC.out s.data.toList.length (by omega)) (by omega) (show k < s.data.toList.length by omega)
      obtain ⟨g, rfl⟩ : ∃ g, f = g + 1 := ⟨f - 1, by omega⟩
      have hst := toks_step s.data.toList g k (by omega)
      obtain ⟨p, hp⟩ : ∃ p, p = lexV s.data.toList k := ⟨_, rfl⟩
      rw [← hp] at hlx hend hst
      obtain ⟨K, z⟩ := p
      clear hp
      by_cases hk0 : K = 0
      · rw [if_pos hk0] at hst
        have hRk : R = ([], 4, (k : Int)) := by rw [HRR.out, hT.out.2, hst]; rfl
        have q : ((K : Int) == 0) = true := by rw [hk0]; rfl
        subst hRk
        clear hk0 hst hend hC hT HRR HA HC
        go_wp2_with (first
          | (go_at_call 29; refine (hlx _).mono ?_; rintro e w2 ⟨rfl, hB4⟩; replace hO := toks_below hO hB4; have hB := hB.trans (hB4.mono hbs); clear hB4)
          | (refine wpList_store_rowTo rfl 26 (.tmp 3) (.tmp 32) rfl rfl w.heap.size #[.int .i64 4, .int .i64 k] rfl rfl 26 #[.int .i64 0, .int .i64 0] ((hB.block w.heap.size (by omega)).trans HH0.out) info33 rfl (by simp [Value.oneCell']) ?_))
        (try simp only [Exit.inBlock, Exit.then])
        refine bodyPost_ret (v := .tuple #[_, .agg #[.int .i64 4, .int .i64 k]]) (results_tmp_row (u := 2) (p := 3) rfl _ _ w.heap.size #[.int .i64 4, .int .i64 k] _ rfl rfl (run_loadVar_row _ w.heap.size 26 26 #[.int .i64 4, .int .i64 k] (0, 0) _ (setRow_heap _ _ _ _ _ _ ((hB.block w.heap.size (by omega)).trans HH0.out)) Tryz.underlying26 rfl info33)) rfl ⟨⟨_, rfl, ?_⟩, below_setRow (HB0.out.trans (hB.mono (by omega))) (Nat.le_refl _) _⟩
        exact World.ownsRow_nil _ _ _ _
      · rw [if_neg hk0] at hst
        obtain ⟨hz1, hz2, hz3⟩ := hend hk0
        have hz1 : k < z := hz1
        have hz2 : z ≤ s.size := by rw [← hl]; exact hz2
        have q : ((K : Int) == 0) = false := by simpa using hk0
        have HC2 := Lib.hid hz3
        have HT2 := Lib.hid (show A.1 = (T ++ [(K, k, z)]) ++ (toks s.data.toList g z).1 ∧ A.2 = (toks s.data.toList g z).2 by
          obtain ⟨t1, t2⟩ := hT.out
          rw [hst] at t1 t2
          exact ⟨by rw [t1, List.append_assoc]; rfl, t2⟩)
        clear hk0 hst hend hz3 hC hT HRR HA HC
        go_wp2_with (first
          | (go_at_call 29; refine (hlx _).mono ?_; rintro e w2 ⟨rfl, hB4⟩; replace hO := toks_below hO hB4; have hB := hB.trans (hB4.mono hbs); clear hB4)
          | (at_builtin; refine wpList_append_own _ rfl _ _ 23 rfl (w.heap.size + 1) 40 i0 (.agg #[.int .u8 0, .int .i64 0, .int .i64 0]) 3 24 Tryz.underlying23 hi hy0 hy1 hy2 rfl (by decide) _ _ _ rfl (hO.alloc _) ⟨w2.heap.size, 0, none⟩ 1 1 [.int .u8 K, .int .i64 k, .int .i64 z] rfl rfl ?c1 ?c2 ?c3 ?c4 ?c5 ?_))
        case c1 => exact three_new _ _ _ _ _
        case c2 => intro u hu; simp at hu; rcases hu with rfl | rfl | rfl <;> rfl
        case c3 => unfold maxLen; omega
        case c4 => omega
        case c5 => have := hB.size; simp; rw [HZ0.out] at this; omega
        · intro v3 w4 hown3 hg3 _
          have hM3 : OwnT w4 (w.heap.size + 1) v3 (T ++ [(K, k, z)]) := by
            unfold OwnT
            rw [tcells_app, List.length_append]
            exact hown3
          have hB5 : Below (w.heap.size + 1) (w.alloc (.cells #[.int .i64 0, .int .i64 0] 26)) w4 := (hB.alloc (by have := hB.size; rw [HZ0.out] at this; exact this) _).grown hg3 (by have := hB.size; rw [HZ0.out] at this; simp; omega) (fun q hq => by have := (hO.lt q hq).1; omega)
          clear hg3 hown3 hO hB
          go_wp2
          go_roundw
          case rel => exact ⟨z, g, T ++ [(K, k, z)], hz2, by omega, by simp; omega, by go_num, hM3, hB5, HC2, HT2⟩
          case measure => simp [intOf]; omega
    · obtain rfl : k = s.size := by omega
      have hTT : R = (T, 0, 0) := by
        obtain ⟨t1, t2⟩ := hT.out
        rw [toks_end _ _ _ (by omega)] at t1 t2
        rw [HRR.out, t2, t1]; simp
      subst hTT
      clear hT hC HRR HA HC
      go_wp2_with (refine wpList_store_rowTo rfl 26 (.tmp 3) (.tmp 42) rfl rfl w.heap.size #[.int .i64 0, .int .i64 0] rfl rfl 26 #[.int .i64 0, .int .i64 0] ((hB.block w.heap.size (by omega)).trans HH0.out) info33 rfl (by simp [Value.oneCell']) ?_)
      (try simp only [Exit.inBlock, Exit.then])
      refine bodyPost_ret (v := .tuple #[_, .agg #[.int .i64 0, .int .i64 0]]) (results_tmp_row (u := 2) (p := 3) rfl _ _ w.heap.size #[.int .i64 0, .int .i64 0] _ rfl rfl (run_loadVar_row _ w.heap.size 26 26 #[.int .i64 0, .int .i64 0] (0, 0) _ (setRow_heap _ _ _ _ _ _ ((hB.block w.heap.size (by omega)).trans HH0.out)) Tryz.underlying26 rfl info33)) rfl ⟨⟨_, rfl, ?_⟩, below_setRow (HB0.out.trans (hB.mono (by omega))) (Nat.le_refl _) _⟩
      exact toks_mono (toks_own hO) (Nat.le_succ _)
end Go.Proofs.YtbkmlldhjchhjaaGreat
