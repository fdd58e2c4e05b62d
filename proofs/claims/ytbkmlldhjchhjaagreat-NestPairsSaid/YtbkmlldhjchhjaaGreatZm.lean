/-
  Layer 9: the pairs of the document: what the walk of Nest keeps, the walk, and the law NestPairs.
-/
import Derived.Test.YtbkmlldhjchhjaaGreatZd
import Derived.Test.YtbkmlldhjchhjaaGreatTs
import Derived.Deep.AppendLies
namespace Go.Proofs.YtbkmlldhjchhjaaGreat

/-- partners as the document keeps them: -1 where nothing was read yet -/
structure RelD (n i : Nat) (pr pd : List Int) : Prop where
  len : pr.length = n
  len' : pd.length = n
  read : ∀ j : Nat, j < i → pd[j]? = pr[j]?
  rest : ∀ j : Nat, i ≤ j → j < n → pd[j]? = some (-1)
theorem reld_start (n : Nat) : RelD n 0 (List.replicate n 0) (List.replicate n (-1)) :=
  ⟨List.length_replicate, List.length_replicate, fun j h => absurd h (Nat.not_lt_zero _), fun j _ h => by rw [List.getElem?_replicate, if_pos h]⟩
theorem reld_skip {n i : Nat} {pr pd : List Int} (h : RelD n i pr pd) (hi : i < n) : RelD n (i + 1) (pr.set i (-1)) pd := by
  obtain ⟨h1, h2, h3, h4⟩ := h
  refine ⟨by rw [List.length_set]; exact h1, h2, fun j hj => ?_, fun j a b => h4 j (by omega) b⟩
  by_cases he : i = j
  · subst he
    rw [set_at (by omega)]; exact h4 i (Nat.le_refl _) hi
  · rw [set_far he]; exact h3 j (by omega)
theorem reld_pair {n i t : Nat} {pr pd : List Int} (h : RelD n (i + 1) pr pd) (hi : i < n) (ht : t < i) : RelD n (i + 1) ((pr.set t (i : Int)).set i (t : Int)) ((pd.set i (t : Int)).set t (i : Int)) := by
  obtain ⟨h1, h2, h3, h4⟩ := h
  refine ⟨by rw [List.length_set, List.length_set]; exact h1, by rw [List.length_set, List.length_set]; exact h2, fun j hj => ?_, fun j a b => ?_⟩
  · by_cases he : i = j
    · subst he
      rw [set_far (by omega), set_at (by omega), set_at (by rw [List.length_set]; omega)]
    by_cases hf : t = j
    · subst hf
      rw [set_at (by rw [List.length_set]; omega), set_far he, set_at (by omega)]
    · rw [set_far hf, set_far he, set_far he, set_far hf]; exact h3 j hj
  · rw [set_far (by omega), set_far (by omega)]; exact h4 j a b
theorem reld_end {n : Nat} {pr pd : List Int} (h : RelD n n pr pd) : pd = pr := by
  apply List.ext_getElem?
  intro j
  by_cases hj : j < n
  · exact h.read j hj
  · rw [List.getElem?_eq_none (by rw [h.len']; omega), List.getElem?_eq_none (by rw [h.len]; omega)]
/-- a step of the document's walk: what stands open, how many at most, the partners; or the fault -/
theorem step_open {l : List UInt8} {S R : List (Nat × Nat × Nat)} {x : Nat × Nat × Nat} {i : Nat} {st : List Nat} {most : Nat} {pr pd : List Int} (h : 0 < sortOf l x) (hl : ¬ 100 ≤ st.length) (hR : RelD S.length i pr pd) (hi : i < S.length) : nestGo l S (x :: R) i st most pr = nestGo l S R (i + 1) (i :: st) (max most (st.length + 1)) (pr.set i (-1)) ∧ RelD S.length (i + 1) (pr.set i (-1)) pd := by
  exact ⟨by rw [go_open h, if_neg (by omega)], reld_skip hR hi⟩
open Go.ChangeShapes Go.WideShapes Go.ChangeAt Go.RowKit


theorem ints_new (w : World) (P : List Int) (c : Array Value) (hc : c = (P.map (Value.int .i64)).toArray) : Ints (w.alloc (.cells c 3)) (some ⟨w.heap.size, 0, none⟩) P := by
  subst hc
  exact prs_ints (heap_alloc_new w _)
set_option maxRecDepth 100000 in
set_option maxHeartbeats 8000000 in
theorem fixed9_any (w : World) (hM : Mx w) :
    Calls Tryz.prog 9 #[] w fun e w' => e = .returned (.bool true) ∧ Below w.heap.size w w' := by
  have h1 : ∀ w, Mx w → Calls Tryz.prog 10 #[.string ⟨#[102, 40, 97, 91, 49, 93, 41]⟩] w fun e w' => (∃ a ca b cb, e = .returned (.tuple #[.slice a 8 ca, .slice b 8 cb, .agg #[.int .i64 0, .int .i64 0]]) ∧ Ints w' b [-1, 6, -1, 5, -1, 3, 1, -1]) ∧ Below w.heap.size w w' := fun w hM => by
    refine (nof_any _ w hM).mono ?_
    rw [show (⟨#[102, 40, 97, 91, 49, 93, 41]⟩ : ByteArray).data.toList = [102, 40, 97, 91, 49, 93, 41] from rfl, lit9a]
    rintro e w' ⟨⟨a, ca, b, cb, rfl, hT, hI, _, _⟩, hB⟩
    exact ⟨⟨a, ca, b, cb, rfl, hI⟩, hB⟩
  have h2 : ∀ w, Mx w → Calls Tryz.prog 10 #[.string ⟨#[40, 93]⟩] w fun e w' => (∃ a ca b cb, e = .returned (.tuple #[.slice a 0 ca, .slice b 0 cb, .agg #[.int .i64 5, .int .i64 1]])) ∧ Below w.heap.size w w' := fun w hM => by
    refine (nof_any _ w hM).mono ?_
    rw [show (⟨#[40, 93]⟩ : ByteArray).data.toList = [40, 93] from rfl, lit9b]
    rintro e w' ⟨⟨a, ca, b, cb, rfl, hT, hI, _, _⟩, hB⟩
    exact ⟨⟨a, ca, b, cb, rfl⟩, hB⟩
  have h3 : ∀ w, Mx w → Calls Tryz.prog 11 #[.string ⟨#[97, 40, 98, 41, 123, 99, 91, 49, 93, 125]⟩] w fun e w' => e = .returned (.tuple #[.int .i64 2, .agg #[.int .i64 0, .int .i64 0]]) ∧ Below w.heap.size w w' := fun w hM => by
    have h := depth_any ⟨#[97, 40, 98, 41, 123, 99, 91, 49, 93, 125]⟩ w hM
    rw [show (⟨#[97, 40, 98, 41, 123, 99, 91, 49, 93, 125]⟩ : ByteArray).data.toList = [97, 40, 98, 41, 123, 99, 91, 49, 93, 125] from rfl, lit9c] at h
    exact h
  have hiy : ∀ w a ca cb, Ints w a [-1, 6, -1, 5, -1, 3, 1, -1] → Calls Tryz.prog 13 #[.slice a 8 ca, .slice (some ⟨w.heap.size, 0, none⟩) 8 cb] (w.alloc (.cells ((([-1, 6, -1, 5, -1, 3, 1, -1] : List Int).map (Value.int .i64)).toArray) 3)) fun e w' => e = .returned (.bool true) ∧ Below w.heap.size w w' := fun w a ca cb h => by
    refine (ints_yes (w.alloc _) a (some ⟨w.heap.size, 0, none⟩) ca cb [-1, 6, -1, 5, -1, 3, 1, -1] (h.below ((Below.refl _ _).alloc (Nat.le_refl _) _)) (ints_new w _ _ rfl) (by unfold maxLen; simp)).mono ?_
    rintro e w' ⟨rfl, hB⟩
    exact ⟨rfl, ((Below.refl w.heap.size w).alloc (Nat.le_refl _) _).trans (hB.mono (by simp))⟩
  obtain ⟨i0, hi, hy0, hy1, hy2⟩ := info_parts info3n
  have hs1 : ¬ 8 * i0.size > 2 ^ 24 := by rw [hy1]; decide
  have hs2 : ¬ 8 * i0.size = 0 := by rw [hy1]; decide
  have HZ := Lib.hid hy1
  have heq := fun w => fault_eq 0 0 w
  have hge := fun u v w => fault_guard u v #[.int .i64 0, .int .i64 0] #[.int .i64 0, .int .i64 0] w
  have heq2 := fun w => fault_eq 5 1 w
  have hge2 := fun u v w => fault_guard u v #[.int .i64 5, .int .i64 1] #[.int .i64 5, .int .i64 1] w
  have hM0 := hM.lt
  have HM := Lib.hid hM
  clear hM hy1
  have TOK1 := True.intro
  go_enter Tryz.func9, Tryz.ntmps9
  go_wp2_with (first
    | (go_at_call 10; clear TOK1; refine (h1 _ HM.out).mono ?_; rintro e w1 ⟨⟨a, ca, b, cb, rfl, hI⟩, hB1⟩; have HI := Lib.hid hI; clear hI)
    | (refine wpList_store_rowTo rfl 26 (.tmp 3) (.tmp 13) rfl rfl w1.heap.size #[.int .i64 0, .int .i64 0] rfl rfl 26 #[.int .i64 0, .int .i64 0] (heap_alloc_new w1 _) info33 rfl (by simp [Value.oneCell']) ?_; have hX1 := setRow_heap _ w1.heap.size _ #[.int .i64 0, .int .i64 0] _ _ (heap_alloc_new w1 (.cells #[.int .i64 0, .int .i64 0] 26)); have hY1 : Below w1.heap.size w1 _ := below_setRow ((Below.refl _ w1).alloc (Nat.le_refl _) (.cells #[.int .i64 0, .int .i64 0] 26)) (Nat.le_refl _) #[.int .i64 0, .int .i64 0]; have hz1 : w1.heap.size < ((w1.alloc (.cells #[.int .i64 0, .int .i64 0] 26)).setRow w1.heap.size #[.int .i64 0, .int .i64 0]).heap.size := (Array.getElem?_eq_some_iff.1 hX1).1; generalize (w1.alloc (.cells #[.int .i64 0, .int .i64 0] 26)).setRow w1.heap.size #[.int .i64 0, .int .i64 0] = W1 at hX1 hY1 hz1 ⊢; have a0 := cell_of_row _ _ 0 _ _ _ hX1; have a1 := cell_of_row _ _ 1 _ _ _ hX1; simp only [List.getElem?_toArray, List.getElem?_cons_zero, List.getElem?_cons_succ] at a0 a1; have hBw := hB1.trans (hY1.mono hB1.size); replace HI := Lib.hid (HI.out.below hY1); clear hX1 hY1 hB1 hz1)
    | (go_at_call 10; refine (h2 _ (HM.out.below hBw hM0)).mono ?_; rintro e w2 ⟨⟨a', ca', b', cb', rfl⟩, hB2⟩; replace HI := Lib.hid (HI.out.below hB2); replace a0 := (hB2.cell (p := ⟨_, _, none⟩) (cell_lt a0)).trans a0; replace a1 := (hB2.cell (p := ⟨_, _, none⟩) (cell_lt a1)).trans a1; replace hBw := below_chain hBw hB2; clear hB2)
    | (refine wpList_store_rowTo rfl 26 (.tmp 6) (.tmp 18) rfl rfl w2.heap.size #[.int .i64 5, .int .i64 1] rfl rfl 26 #[.int .i64 0, .int .i64 0] (heap_alloc_new w2 _) info33 rfl (by simp [Value.oneCell']) ?_; have hX1 := setRow_heap _ w2.heap.size _ #[.int .i64 5, .int .i64 1] _ _ (heap_alloc_new w2 (.cells #[.int .i64 0, .int .i64 0] 26)); have hY1 : Below w2.heap.size w2 _ := below_setRow ((Below.refl _ w2).alloc (Nat.le_refl _) (.cells #[.int .i64 0, .int .i64 0] 26)) (Nat.le_refl _) #[.int .i64 5, .int .i64 1]; have hz1 : w2.heap.size < ((w2.alloc (.cells #[.int .i64 0, .int .i64 0] 26)).setRow w2.heap.size #[.int .i64 5, .int .i64 1]).heap.size := (Array.getElem?_eq_some_iff.1 hX1).1; generalize (w2.alloc (.cells #[.int .i64 0, .int .i64 0] 26)).setRow w2.heap.size #[.int .i64 5, .int .i64 1] = W2 at hX1 hY1 hz1 ⊢; have b0 := cell_of_row _ _ 0 _ _ _ hX1; have b1 := cell_of_row _ _ 1 _ _ _ hX1; simp only [List.getElem?_toArray, List.getElem?_cons_zero, List.getElem?_cons_succ] at b0 b1; replace a0 := (hY1.cell (p := ⟨_, _, none⟩) (cell_lt a0)).trans a0; replace a1 := (hY1.cell (p := ⟨_, _, none⟩) (cell_lt a1)).trans a1; replace HI := Lib.hid (HI.out.below hY1); replace hBw := below_chain hBw hY1; clear hX1 hY1 hz1)
    | (go_at_call 11; refine (h3 _ (HM.out.below hBw hM0)).mono ?_; rintro e w3 ⟨rfl, hB2⟩; replace HI := Lib.hid (HI.out.below hB2); replace a0 := (hB2.cell (p := ⟨_, _, none⟩) (cell_lt a0)).trans a0; replace a1 := (hB2.cell (p := ⟨_, _, none⟩) (cell_lt a1)).trans a1; replace b0 := (hB2.cell (p := ⟨_, _, none⟩) (cell_lt b0)).trans b0; replace b1 := (hB2.cell (p := ⟨_, _, none⟩) (cell_lt b1)).trans b1; replace hBw := below_chain hBw hB2; clear hB2)
    | (refine wpList_store_rowTo rfl 26 (.tmp 8) (.tmp 22) rfl rfl w3.heap.size #[.int .i64 0, .int .i64 0] rfl rfl 26 #[.int .i64 0, .int .i64 0] (heap_alloc_new w3 _) info33 rfl (by simp [Value.oneCell']) ?_; have hX1 := setRow_heap _ w3.heap.size _ #[.int .i64 0, .int .i64 0] _ _ (heap_alloc_new w3 (.cells #[.int .i64 0, .int .i64 0] 26)); have hY1 : Below w3.heap.size w3 _ := below_setRow ((Below.refl _ w3).alloc (Nat.le_refl _) (.cells #[.int .i64 0, .int .i64 0] 26)) (Nat.le_refl _) #[.int .i64 0, .int .i64 0]; have hz1 : w3.heap.size < ((w3.alloc (.cells #[.int .i64 0, .int .i64 0] 26)).setRow w3.heap.size #[.int .i64 0, .int .i64 0]).heap.size := (Array.getElem?_eq_some_iff.1 hX1).1; generalize (w3.alloc (.cells #[.int .i64 0, .int .i64 0] 26)).setRow w3.heap.size #[.int .i64 0, .int .i64 0] = W3 at hX1 hY1 hz1 ⊢; have c0 := cell_of_row _ _ 0 _ _ _ hX1; have c1 := cell_of_row _ _ 1 _ _ _ hX1; simp only [List.getElem?_toArray, List.getElem?_cons_zero, List.getElem?_cons_succ] at c0 c1; replace a0 := (hY1.cell (p := ⟨_, _, none⟩) (cell_lt a0)).trans a0; replace a1 := (hY1.cell (p := ⟨_, _, none⟩) (cell_lt a1)).trans a1; replace b0 := (hY1.cell (p := ⟨_, _, none⟩) (cell_lt b0)).trans b0; replace b1 := (hY1.cell (p := ⟨_, _, none⟩) (cell_lt b1)).trans b1; replace HI := Lib.hid (HI.out.below hY1); replace hBw := below_chain hBw hY1; clear hX1 hY1 hz1)
    | (refine wpList_buildSlice rfl 31 3 8 _ rfl ((([-1, 6, -1, 5, -1, 3, 1, -1] : List Int).map (Value.int .i64)).toArray) i0 _ Tryz.underlying31 hi hy0 hs1 hs2 (by rw [HZ.out]; kernel_rfl) ?_)
    | (go_at_call 13; refine (hiy _ b cb _ HI.out).mono ?_; rintro e w4 ⟨rfl, hB2⟩; replace a0 := (hB2.cell (p := ⟨_, _, none⟩) (cell_lt a0)).trans a0; replace a1 := (hB2.cell (p := ⟨_, _, none⟩) (cell_lt a1)).trans a1; replace b0 := (hB2.cell (p := ⟨_, _, none⟩) (cell_lt b0)).trans b0; replace b1 := (hB2.cell (p := ⟨_, _, none⟩) (cell_lt b1)).trans b1; replace c0 := (hB2.cell (p := ⟨_, _, none⟩) (cell_lt c0)).trans c0; replace c1 := (hB2.cell (p := ⟨_, _, none⟩) (cell_lt c1)).trans c1; replace hBw := below_chain hBw hB2; clear hB2))
  go_ret
  exact ⟨rfl, hBw⟩

theorem rof_any (s : ByteArray) (w : World) :
    Calls Tryz.prog 7 #[.string s] w fun e w' => AllOf w.heap.size (semAns s.data.toList) e w' ∧ Below w.heap.size w w' := by
  rcases all_cases s.data.toList with ⟨f, g, h1, h2, h3, h4⟩ | ⟨T, h1, h2, h3⟩
  · unfold semAns
    rw [h1, if_neg h2]
    exact rof_bad s w f g h1 h2
  · unfold semAns
    rw [h1, if_pos rfl]
    rw [ba_list] at h2
    exact rof_good s w T h1 h2 h3


set_option maxHeartbeats 4000000 in
theorem rsort_any (s : ByteArray) (K p z : Nat) (h1 : p ≤ z) (h2 : z ≤ s.size) (w : World) :
    Calls Tryz.prog 24 #[.string s, .agg #[.int .u8 K, .int .i64 p, .int .i64 z]] w fun e w' => e = .returned (.int .i64 (brk K (textAt s.data.toList (K, p, z)))) ∧ Below w.heap.size w w' := by
  have HB := Lib.hid (show Below w.heap.size w (w.alloc (.cells #[.int .u8 K, .int .i64 p, .int .i64 z] 40)) from (Below.refl _ _).alloc (Nat.le_refl _) _)
  have hsl := fun w => slice_str s p z h1 h2 w
  obtain ⟨X, hX⟩ : ∃ X, X = s.extract p z := ⟨_, rfl⟩
  have hXl : textAt s.data.toList (K, p, z) = X.data.toList := by rw [hX, Num.extract_take]; rfl
  rw [← hX] at hsl
  rw [hXl]
  clear hX hXl
  by_cases hK : K = 8
  · subst hK
    go_enter Tryz.func24, Tryz.ntmps24
    go_wp2
    all_goals
      go_ret
      refine ⟨ret_i64 ?_, HB.out⟩
      rw [← ByteArray.toList_eq]
      unfold brk
      simp_all
  · have k8 : ((K : Int) != 8) = true := by simp; omega
    have hb : brk K X.data.toList = 0 := by unfold brk; rw [if_pos hK]
    rw [hb]
    clear hK hb
    go_enter Tryz.func24, Tryz.ntmps24
    go_wp2
    go_ret
    exact ⟨rfl, HB.out⟩

/-- a list of numbers of a call's own -/
def MineI (w : World) (base : Nat) (v : Value) (xs : List Int) : Prop := w.ownsRow base 3 1 v xs.length (xs.map (Value.int .i64))
theorem mineI_below {w w' : World} {base : Nat} {v : Value} {xs : List Int} (h : MineI w base v xs) (hB : Below w.heap.size w w') : MineI w' base v xs :=
  h.kept (w := w) (w' := w') (row := none) ⟨hB.os, hB.tape, hB.output, hB.size, fun k hk _ => hB.block k hk⟩ (by cases v.ownBlock <;> simp)
theorem mineI_form {w : World} {base : Nat} {v : Value} {xs : List Int} (h : MineI w base v xs) : ∃ a cap, v = .slice a xs.length cap ∧ xs.length ≤ cap ∧ (∀ (k : Nat) (x : Int), xs[k]? = some x → ∃ g, a = some ⟨g, 0, none⟩ ∧ base ≤ g ∧ g < w.heap.size ∧ w.cell? ⟨g, k, none⟩ = some (.int .i64 x)) := by
  rcases h.2 with ⟨h1, h2⟩ | ⟨g, cap, cur, h1, hb, hg, h3, h4, _⟩
  · exact ⟨none, 0, by rw [h1, h2], by omega, fun k x hk => by have := (List.getElem?_eq_some_iff.1 hk).1; omega⟩
  · refine ⟨some ⟨g, 0, none⟩, cap, h1, h3, fun k x hk => ⟨g, rfl, hb, (Array.getElem?_eq_some_iff.1 hg).1, ?_⟩⟩
    subst h1
    have hl := (List.getElem?_eq_some_iff.1 hk).1
    have := World.ownsRow.cellAt h k (by omega)
    rw [this, List.getElem?_map, hk]; rfl
theorem mineI_nil (w : World) (base : Nat) : MineI w base (.slice none 0 0) [] := World.ownsRow_nil _ _ _ _
theorem mineI_snoc {w : World} {base : Nat} {v : Value} {xs : List Int} {x : Int} (h : w.ownsRow base 3 1 v (xs.length + 1) (xs.map (Value.int .i64) ++ [.int .i64 x])) : MineI w base v (xs ++ [x]) := by
  unfold MineI
  rw [List.length_append, List.map_append]; exact h
theorem new_cells (w : World) (t : TypeId) (cs : Array Value) (j : Nat) (u : Value) (h : cs[j]? = some u) : (w.alloc (.cells cs t)).cell? ((⟨w.heap.size, 0, none⟩ : Addr).add j) = some u := by
  have := cell_of_row (w.alloc (.cells cs t)) w.heap.size j cs t (0, 0) (heap_alloc_new w _)
  rw [← h, ← this]
  by_cases hj : j = 0
  · subst hj; rfl
  · simp [Addr.add, hj]
theorem one_new9 (w : World) (x : Value) (t : TypeId) : ∀ j u, [x][j]? = some u → (w.alloc (.cells #[x] t)).cell? ((⟨w.heap.size, 0, none⟩ : Addr).add j) = some u :=
  fun j u h => new_cells w t #[x] j u (by simpa using h)
def natsI (ks : List Nat) : List Int := ks.map fun (k : Nat) => (k : Int)
theorem fill_step (j d : Nat) : ((List.replicate j (-1 : Int)) ++ List.replicate (d + 1) 0).set j (-1) = List.replicate (j + 1) (-1) ++ List.replicate d 0 := by
  rw [List.set_append_right _ _ (by simp), List.length_replicate, Nat.sub_self, List.replicate_succ, List.set_cons_zero, List.replicate_succ', List.append_assoc]; rfl
theorem rof_toks (s : ByteArray) (w : World) : Calls Tryz.prog 7 #[.string s] w fun e w' => (∃ a cap, e = .returned (.tuple #[.slice a (semAns s.data.toList).1.length cap, .agg #[.int .i64 (semAns s.data.toList).2.1, .int .i64 (semAns s.data.toList).2.2]]) ∧ Toks w' a (semAns s.data.toList).1 ∧ (semAns s.data.toList).1.length ≤ maxLen) ∧ Below w.heap.size w w' := by
  refine (rof_any s w).mono ?_
  rintro e w' ⟨⟨v, rfl, hO⟩, hB⟩
  obtain ⟨a, cap, rfl, hT, hL⟩ := own_toks hO
  exact ⟨⟨a, cap, rfl, hT, hL⟩, hB⟩
set_option maxRecDepth 100000 in
set_option maxHeartbeats 8000000 in
theorem rnest_bad (s : ByteArray) (w : World) (f g : Int) (hA : semAns s.data.toList = ([], f, g)) (hf : f ≠ 0) :
    Calls Tryz.prog 12 #[.string s] w fun e w' => ReadOf w.heap.size ([], [], 0, f, g) e w' ∧ Below w.heap.size w w' := by
  have HB0 := Lib.hid (show Below w.heap.size w (w.alloc (.cells #[.int .i64 0, .int .i64 0] 26)) from (Below.refl _ _).alloc (Nat.le_refl _) _)
  have HH0 := Lib.hid (show (w.alloc (.cells #[.int .i64 0, .int .i64 0] 26)).heap[w.heap.size]? = some (.cells #[.int .i64 0, .int .i64 0] 26) from heap_alloc_new w _)
  have HZ0 := Lib.hid (show (w.alloc (.cells #[.int .i64 0, .int .i64 0] 26)).heap.size = w.heap.size + 1 by simp)
  have h1 := fun w => rof_toks s w
  rw [hA] at h1
  have q1 : (f != 0) = true := by simpa using hf
  clear hA hf
  go_enter Tryz.func12, Tryz.ntmps12
  go_wp2_with (go_at_call 7; refine (h1 _).mono ?_; rintro e w1 ⟨⟨a, ca, rfl, hTa, hLn⟩, hB1⟩; replace hB1 := hB1.mono (show w.heap.size + 1 ≤ _ by rw [HZ0.out]; exact Nat.le_refl _); clear hTa hLn)
  have hX1 := heap_alloc_new w1 (.cells #[.int .i64 f, .int .i64 g] 26)
  have hBw := hB1.alloc (by have := hB1.size; rw [HZ0.out] at this; exact this) (.cells #[.int .i64 f, .int .i64 g] 26)
  generalize w1.alloc (.cells #[.int .i64 f, .int .i64 g] 26) = W1 at hX1 hBw ⊢
  have a0 := cell_of_row _ _ 0 _ _ _ hX1
  have a1 := cell_of_row _ _ 1 _ _ _ hX1
  simp only [List.getElem?_toArray, List.getElem?_cons_zero, List.getElem?_cons_succ] at a0 a1
  clear hX1 hB1
  go_still_tail 4, (by kernel_rfl)
  change wpList _ _ _ _ _ W1.drew
  have hBx := hBw.drew
  have HR := Lib.hid ((hBx.block w.heap.size (by omega)).trans HH0.out)
  clear a0 a1 hBw
  generalize W1.drew = W2 at hBx HR ⊢
  go_wp2_with (refine wpList_store_rowTo rfl 26 (.tmp 5) (.tmp 23) rfl rfl w.heap.size #[.int .i64 f, .int .i64 g] rfl rfl 26 #[.int .i64 0, .int .i64 0] HR.out info33 rfl (by simp [Value.oneCell']) ?_)
  (try simp only [Exit.inBlock, Exit.then])
  refine bodyPost_ret (v := .tuple #[_, _, _, .agg #[.int .i64 f, .int .i64 g]]) (results_tmp3_row (u := 2) (v := 3) (x := 4) (p := 5) rfl _ _ w.heap.size #[.int .i64 f, .int .i64 g] _ _ _ rfl rfl rfl rfl (run_loadVar_row _ w.heap.size 26 26 #[.int .i64 f, .int .i64 g] (0, 0) _ (setRow_heap _ _ _ _ _ _ HR.out) Tryz.underlying26 rfl info33)) rfl ⟨?_, below_setRow (HB0.out.trans (hBx.mono (by omega))) (Nat.le_refl _) _⟩
  exact readOf_fault _ _ f g _


set_option maxRecDepth 100000 in
set_option maxHeartbeats 16000000 in
theorem rnest_good (s : ByteArray) (w : World) (S : List (Nat × Nat × Nat)) (hA : semAns s.data.toList = (S, 0, 0)) (hn0 : S.length ≤ 1048576) (hSb : ∀ x ∈ S, x.2.1 ≤ x.2.2 ∧ x.2.2 ≤ s.size) :
    Calls Tryz.prog 12 #[.string s] w fun e w' => ReadOf w.heap.size (nestAns s.data.toList) e w' ∧ Below w.heap.size w w' := by
  obtain ⟨R, hR⟩ : ∃ R, R = nestGo s.data.toList S S 0 [] 0 (List.replicate S.length 0) := ⟨_, rfl⟩
  have HANS := Lib.hid (nest_good hA hR.symm)
  have HB0 := Lib.hid (show Below w.heap.size w (w.alloc (.cells #[.int .i64 0, .int .i64 0] 26)) from (Below.refl _ _).alloc (Nat.le_refl _) _)
  have HH0 := Lib.hid (show (w.alloc (.cells #[.int .i64 0, .int .i64 0] 26)).heap[w.heap.size]? = some (.cells #[.int .i64 0, .int .i64 0] 26) from heap_alloc_new w _)
  have HZ0 := Lib.hid (show (w.alloc (.cells #[.int .i64 0, .int .i64 0] 26)).heap.size = w.heap.size + 1 by simp)
  have h1 := fun w => rof_toks s w
  rw [hA] at h1
  obtain ⟨n, hn⟩ : ∃ n, n = S.length := ⟨_, rfl⟩
  dsimp only at h1
  rw [← hn] at h1 hR hn0
  obtain ⟨Zn, hZn, hmk⟩ := make_ints n hn0
  have HN := Lib.hid hn
  have HSB := Lib.hid hSb
  have HRR := Lib.hid hR.symm
  have HZN := Lib.hid hZn
  obtain ⟨i0, hi0, hz0, hz1, hz2⟩ := info_parts info3n
  have H1 := Lib.hid hi0
  have H2 := Lib.hid hz0
  have H3 := Lib.hid hz1
  have H4 := Lib.hid hz2
  clear hA hn hSb hR hZn hi0 hz0 hz1 hz2
  go_enter Tryz.func12, Tryz.ntmps12
  go_wp2_with (go_at_call 7; refine (h1 _).mono ?_; rintro e w1 ⟨⟨a, ca, rfl, hTa, hLn⟩, hB1⟩; replace hB1 := hB1.mono (show w.heap.size + 1 ≤ _ by rw [HZ0.out]; exact Nat.le_refl _); have HTA := Lib.hid hTa; clear hTa hLn)
  have hBw := hB1.alloc (by have := hB1.size; rw [HZ0.out] at this; exact this) (.cells #[.int .i64 0, .int .i64 0] 26)
  replace HTA := Lib.hid (HTA.out.below ((Below.refl _ w1).alloc (Nat.le_refl _) (.cells #[.int .i64 0, .int .i64 0] 26)))
  have hzz : (w1.alloc (.cells #[.int .i64 0, .int .i64 0] 26)).heap.size = w1.heap.size + 1 := by simp
  generalize w1.alloc (.cells #[.int .i64 0, .int .i64 0] 26) = W1 at HTA hBw hzz ⊢
  obtain ⟨b, hb⟩ : ∃ b, b = W1.heap.size := ⟨_, rfl⟩
  have hwb : w.heap.size < b := by have := hBw.size; rw [HZ0.out] at this; omega
  have HP0 : Hid (Prs (W1.alloc (.cells Zn 3)) b (List.replicate n 0)) := by
    refine Lib.hid ?_
    unfold Prs
    rw [← HZN.out, hb]; exact heap_alloc_new W1 _
  have HBl0 : Hid (Below b W1 (W1.alloc (.cells Zn 3))) := Lib.hid ((Below.refl b W1).alloc (by omega) _)
  have hb2 : b = w1.heap.size + 1 := hb.trans hzz
  rw [← hb2]
  have HBQ := Lib.hid hb
  have HBW := Lib.hid hBw
  clear hb hb2 hzz hBw h1 hB1 hmk
  generalize W1.alloc (.cells Zn 3) = W2 at HP0 HBl0 ⊢
  go_loopw [9] (fun t wr => ∃ j : Nat, j ≤ n ∧ t = .int .i64 j ∧ Hid (Prs wr b (List.replicate j (-1) ++ List.replicate (n - j) 0)) ∧ Hid (Below b W1 wr)) (fun t _ => n - (intOf t).toNat)
  case atStart => exact ⟨0, Nat.zero_le _, rfl, by rw [Nat.sub_zero]; exact HP0, HBl0⟩
  case round =>
    obtain ⟨j, hj, rfl, HP, HB⟩ := hrel
    by_cases hlt : j < n
    · obtain ⟨d, hd⟩ : ∃ d, n - j = d + 1 := ⟨n - j - 1, by omega⟩
      have hp := HP.out
      rw [hd] at hp
      have hc := hp.cell (k := j) (x := 0) (by rw [List.getElem?_append_right (by simp), List.length_replicate, Nat.sub_self]; rfl)
      have hf := row_free hp j
      have HP2 : Hid (Prs (wr.setCell ⟨b, j, none⟩ (.int .i64 (-1))) b (List.replicate (j + 1) (-1) ++ List.replicate (n - (j + 1)) 0)) := Lib.hid (by rw [show n - (j + 1) = d by omega, ← fill_step]; exact hp.set j _)
      have j0 : (0 : Int) ≤ j := by omega
      have j1 : (j : Int) < n := by omega
      clear hp hd
      go_wp2
      go_roundw
      case rel => exact ⟨j + 1, by omega, by go_num, HP2, Lib.hid (HB.out.setCell (p := ⟨b, j, none⟩) (Nat.le_refl _) _)⟩
      case measure => simp [intOf]; omega
    · have hjn : j = n := by omega
      have hp := HP.out
      rw [hjn, Nat.sub_self, List.replicate_zero, List.append_nil] at hp
      have HP3 := Lib.hid hp
      have HB3 := HB
      clear hp hjn HP HP0 HBl0
      obtain ⟨wo, rfl⟩ : ∃ wo : World, wo = wr := ⟨_, rfl⟩
      go_wp2
      go_loopw [10, 11, 12, 13, 14] (fun ov mv iv _ _ wr => ∃ (i most : Nat) (st : List Nat) (pr pd : List Int), i ≤ n ∧ most ≤ 100 ∧ st.length ≤ 100 ∧ mv = .int .i64 most ∧ iv = .int .i64 i ∧ Hid (∀ t ∈ st, t < i) ∧ Hid (MineI wr (b + 1) ov (natsI st.reverse)) ∧ Hid (Prs wr b pd) ∧ Hid (RelD n i pr pd) ∧ Hid (Below b W1 wr) ∧ b + 1 ≤ wr.heap.size ∧ Hid (nestGo s.data.toList S (S.drop i) i st most pr = R)) (fun _ _ iv _ _ _ => n - (intOf iv).toNat)
      case atStart => exact ⟨0, 0, [], List.replicate n 0, List.replicate n (-1), Nat.zero_le _, Nat.zero_le _, Nat.zero_le _, rfl, rfl, Lib.hid (fun t h => by cases h), Lib.hid (mineI_nil _ _), HP3, Lib.hid (reld_start n), HB3, (Array.getElem?_eq_some_iff.1 HP3.out).1, HRR⟩
      case round =>
        obtain ⟨i, most, st, pr, pd, hi, hmost, hst, rfl, rfl, HST, HMI, HPR, HRD, HBL, hbz, HGO⟩ := hrel
        obtain ⟨oa, oc, hov, hoc, hoI⟩ := mineI_form HMI.out
        have hsl : (natsI st.reverse).length = st.length := by simp [natsI]
        rw [hsl] at hov hoc
        subst hov
        have HOI := Lib.hid hoI
        have HSL := Lib.hid hsl
        clear hoI hsl
        by_cases hlt : i < n
        · have j1 : (i : Int) < n := by omega
          have j0 : (0 : Int) ≤ i := by omega
          have hkl : i < S.length := by rw [← HN.out]; exact hlt
          obtain ⟨x, hx⟩ : ∃ x, S[i]? = some x := ⟨S[i]'hkl, List.getElem?_eq_getElem hkl⟩
          have hd : S.drop i = x :: S.drop (i + 1) := by rw [List.drop_eq_getElem_cons hkl, (List.getElem?_eq_some_iff.1 hx).2]
          have hgo := HGO.out
          rw [hd] at hgo
          obtain ⟨b1, b2⟩ := HSB.out _ (List.mem_of_getElem? hx)
          obtain ⟨k, hk⟩ : ∃ k, k = sortOf s.data.toList x := ⟨_, rfl⟩
          obtain ⟨K, p, z⟩ := x
          obtain ⟨g, rfl, c0, c1, c2⟩ := (HTA.out.below (by rw [← HBQ.out]; exact HBL.out)) i _ hx
          dsimp only at b1 b2 c0 c1 c2
          have hbk := fun w => rsort_any s K p z b1 b2 w
          have hk' : brk K (textAt s.data.toList (K, p, z)) = k := hk.symm
          rw [hk'] at hbk
          have hblt : b < wr.heap.size := hbz
          have HX := Lib.hid hx
          have HK := Lib.hid hk
          have HGO2 := Lib.hid hgo
          have HRD2 := Lib.hid (reld_skip HRD.out hlt)
          have hbd := brk_bd K (textAt s.data.toList (K, p, z))
          rw [hk'] at hbd
          clear hd hx hk hk' hgo hkl HGO
          by_cases hpos : 0 < k
          · have hgo := HGO2.out
            rw [go_open (by rw [← HK.out]; exact hpos)] at hgo
            by_cases hfull : st.length = 100
            · rw [if_pos hfull] at hgo
              have HF := Lib.hid (fault_ans HANS.out hgo.symm (by decide))
              clear hgo HGO2
              go_wp2_with (go_at_call 24; refine (hbk _).mono ?_; rintro e w2 ⟨rfl, hB2⟩; have HB2 := Lib.hid (HBL.out.trans (hB2.mono (Nat.le_of_succ_le hbz))); have HM2 := Lib.hid (mineI_below HMI.out hB2); have HPR2 := Lib.hid (show Prs w2 b pd from (hB2.block b hblt).trans HPR.out); have hbz2 : b + 1 ≤ w2.heap.size := Nat.le_trans hbz hB2.size; have c1 := (hB2.cell (p := ⟨g, i * 3 + 1, none⟩) (cell_lt c1)).trans c1; clear hB2)
              go_still_tail 9, (by kernel_rfl)
              change wpList _ _ _ _ _ w2.drew
              have hBx := (HBW.out.trans (HB2.out.mono (by omega))).drew
              have HR9 := Lib.hid ((hBx.block w.heap.size (by omega)).trans HH0.out)
              generalize w2.drew = WQ at hBx HR9 ⊢
              go_wp2_with (refine wpList_store_rowTo rfl 26 (.tmp 5) (.tmp 58) rfl rfl w.heap.size #[.int .i64 6, .int .i64 p] rfl rfl 26 #[.int .i64 0, .int .i64 0] HR9.out info33 rfl (by simp [Value.oneCell']) ?_)
              (try simp only [Exit.inBlock, Exit.then])
              refine bodyPost_ret (v := .tuple #[_, _, _, .agg #[.int .i64 6, .int .i64 p]]) (results_tmp3_row (u := 2) (v := 3) (x := 4) (p := 5) rfl _ _ w.heap.size #[.int .i64 6, .int .i64 p] _ _ _ rfl rfl rfl rfl (run_loadVar_row _ w.heap.size 26 26 #[.int .i64 6, .int .i64 p] (0, 0) _ (setRow_heap _ _ _ _ _ _ HR9.out) Tryz.underlying26 rfl info33)) rfl ⟨?_, below_setRow (HB0.out.trans (hBx.mono (by omega))) (Nat.le_refl _) _⟩
              rw [HF.out]
              exact readOf_fault _ _ 6 p _
            · rw [if_neg hfull] at hgo
              obtain ⟨MX, hMX⟩ : ∃ MX, MX = max most (st.length + 1) := ⟨_, rfl⟩
              rw [← hMX] at hgo
              have hmx : max (most : Int) ((st.length : Int) + 1) = (MX : Int) := by omega
              have hMX100 : MX ≤ 100 := by omega
              have hsl99 : ¬ (100 : Int) ≤ st.length := by omega
              have hk2 : ¬ k < 0 := by omega
              have HGO3 := Lib.hid hgo
              have HSTR : Hid (natsI (i :: st).reverse = natsI st.reverse ++ [(i : Int)]) := Lib.hid (by simp [natsI])
              clear hgo HGO2 hMX hfull
              go_wp2_with (first
                | (go_at_call 24; refine (hbk _).mono ?_; rintro e w2 ⟨rfl, hB2⟩; have HB2 := Lib.hid (HBL.out.trans (hB2.mono (Nat.le_of_succ_le hbz))); have HM2 := Lib.hid (mineI_below HMI.out hB2); have HPR2 := Lib.hid (show Prs w2 b pd from (hB2.block b hblt).trans HPR.out); have hbz2 : b + 1 ≤ w2.heap.size := Nat.le_trans hbz hB2.size; have c1 := (hB2.cell (p := ⟨g, i * 3 + 1, none⟩) (cell_lt c1)).trans c1; clear hB2)
                | (at_builtin; refine wpList_append_own _ rfl _ _ 31 rfl (b + 1) 3 i0 (.int .i64 0) 1 8 Tryz.underlying31 H1.out H2.out H3.out H4.out rfl (by decide) _ _ _ rfl (HM2.out.alloc _) ⟨_, 0, none⟩ 1 1 [.int .i64 i] rfl rfl (one_new9 _ _ _) (by intro u hu; simp at hu; subst hu; rfl) (by have := HSL.out; unfold maxLen; omega) (by have := HSL.out; omega) (by simp; omega) ?_))
              intro v3 w3 hown3 hg3 _
              have HM3 : Hid (MineI w3 (b + 1) v3 (natsI st.reverse ++ [(i : Int)])) := Lib.hid (mineI_snoc hown3)
              have hob := fun q hq => (HM2.out.lt q hq).1
              have hB3 : Below (b + 1) w2 w3 := ((Below.refl _ w2).alloc hbz2 _).grown hg3 (by simp; omega) hob
              have HB3 := Lib.hid (HB2.out.trans (hB3.mono (Nat.le_succ b)))
              have HPR3 := Lib.hid (show Prs w3 b pd from (hB3.block b (by omega)).trans HPR2.out)
              have hbz3 : b + 1 ≤ w3.heap.size := Nat.le_trans hbz2 hB3.size
              obtain ⟨va, vc, hv3, _, _⟩ := mineI_form HM3.out
              have hvl : (natsI st.reverse ++ [(i : Int)]).length = st.length + 1 := by simp [natsI]
              rw [hvl] at hv3
              subst hv3
              clear hown3 hg3 hob hB3 hvl
              go_wp2
              go_roundw
              case rel => exact ⟨i + 1, MX, i :: st, pr.set i (-1), pd, by omega, hMX100, by rw [List.length_cons]; omega, rfl, by go_num, Lib.hid (fun t ht => by rcases List.mem_cons.1 ht with rfl | ht; omega; have := HST.out t ht; omega), by rw [HSTR.out]; exact HM3, HPR3, HRD2, HB3, hbz3, HGO3⟩
              case measure => simp [intOf]; omega
          · by_cases hneg : k < 0
            · have hgo := HGO2.out
              cases st with
              | nil =>
                rw [go_none (by rw [← HK.out]; exact hneg)] at hgo
                have HF := Lib.hid (fault_ans HANS.out hgo.symm (by decide))
                rw [List.length_nil]
                clear hgo HGO2
                go_wp2_with (go_at_call 24; refine (hbk _).mono ?_; rintro e w2 ⟨rfl, hB2⟩; have HB2 := Lib.hid (HBL.out.trans (hB2.mono (Nat.le_of_succ_le hbz))); have HM2 := Lib.hid (mineI_below HMI.out hB2); have HPR2 := Lib.hid (show Prs w2 b pd from (hB2.block b hblt).trans HPR.out); have hbz2 : b + 1 ≤ w2.heap.size := Nat.le_trans hbz hB2.size; have c1 := (hB2.cell (p := ⟨g, i * 3 + 1, none⟩) (cell_lt c1)).trans c1; clear hB2)
                go_still_tail 9, (by kernel_rfl)
                change wpList _ _ _ _ _ w2.drew
                have hBx := (HBW.out.trans (HB2.out.mono (by omega))).drew
                have HR9 := Lib.hid ((hBx.block w.heap.size (by omega)).trans HH0.out)
                generalize w2.drew = WQ at hBx HR9 ⊢
                go_wp2_with (refine wpList_store_rowTo rfl 26 (.tmp 5) (.tmp 93) rfl rfl w.heap.size #[.int .i64 5, .int .i64 p] rfl rfl 26 #[.int .i64 0, .int .i64 0] HR9.out info33 rfl (by simp [Value.oneCell']) ?_)
                (try simp only [Exit.inBlock, Exit.then])
                refine bodyPost_ret (v := .tuple #[_, _, _, .agg #[.int .i64 5, .int .i64 p]]) (results_tmp3_row (u := 2) (v := 3) (x := 4) (p := 5) rfl _ _ w.heap.size #[.int .i64 5, .int .i64 p] _ _ _ rfl rfl rfl rfl (run_loadVar_row _ w.heap.size 26 26 #[.int .i64 5, .int .i64 p] (0, 0) _ (setRow_heap _ _ _ _ _ _ HR9.out) Tryz.underlying26 rfl info33)) rfl ⟨?_, below_setRow (HB0.out.trans (hBx.mono (by omega))) (Nat.le_refl _) _⟩
                rw [HF.out]
                exact readOf_fault _ _ 5 p _
              | cons t st =>
                have hti := HST.out t (List.mem_cons_self ..)
                have htl : t < S.length := by rw [← HN.out]; omega
                obtain ⟨y, hy⟩ : ∃ y, S[t]? = some y := ⟨S[t]'htl, List.getElem?_eq_getElem htl⟩
                rw [go_shut (by rw [← HK.out]; exact hneg), tokAt_of hy, ← HK.out] at hgo
                obtain ⟨b3, b4⟩ := HSB.out _ (List.mem_of_getElem? hy)
                obtain ⟨k2, hk2⟩ : ∃ k, k = sortOf s.data.toList y := ⟨_, rfl⟩
                rw [← hk2] at hgo
                obtain ⟨J, q, r⟩ := y
                obtain ⟨g', hg', t0, t1, t2⟩ := (HTA.out.below (by rw [← HBQ.out]; exact HBL.out)) t _ hy
                cases hg'
                dsimp only at b3 b4 t0 t1 t2
                have hbk2 := fun w => rsort_any s J q r b3 b4 w
                rw [show brk J (textAt s.data.toList (J, q, r)) = k2 from hk2.symm] at hbk2
                have hbd2 := brk_bd J (textAt s.data.toList (J, q, r))
                rw [show brk J (textAt s.data.toList (J, q, r)) = k2 from hk2.symm] at hbd2
                obtain ⟨m, hm⟩ : ∃ m, m = st.length := ⟨_, rfl⟩
                have hot := HOI.out m (t : Int) (by unfold natsI; rw [List.reverse_cons, List.map_append, List.getElem?_append_right (by simp; omega)]; simp [hm])
                obtain ⟨g3, rfl, hgb3, hgl3, ot⟩ := hot
                rw [List.length_cons, ← hm] at hst hoc ⊢
                have hnl : (natsI st.reverse).length = m := by simp [natsI, hm]
                have HOJ : Hid (∀ (j : Nat) (u : Value), ((natsI st.reverse).map (Value.int .i64))[j]? = some u → wr.cell? ⟨g3, j, none⟩ = some u) := Lib.hid (fun j u hu => by
                  rw [List.getElem?_map] at hu
                  obtain ⟨x, hx, rfl⟩ := Option.map_eq_some_iff.1 hu
                  obtain ⟨g4, e4, _, _, c4⟩ := HOI.out j x (by unfold natsI at hx ⊢; rw [List.reverse_cons, List.map_append, List.getElem?_append_left (by have := (List.getElem?_eq_some_iff.1 hx).1; exact this)]; exact hx)
                  cases e4; exact c4)
                have HNL := Lib.hid hnl
                have HMM := Lib.hid hm
                have HGO3 := Lib.hid hgo
                have jt : (t : Int) < n := by omega
                have jt0 : (0 : Int) ≤ t := by omega
                have hgt := cell_lt t0
                dsimp only at hgt
                have hm100 : m < 100 := by omega
                clear hy htl hk2 hgo HGO2 hnl hm HOI
                go_wp2_with fail
                refine (hbk _).mono ?_
                rintro e w2 ⟨rfl, hB2⟩
                have HB2 := Lib.hid (HBL.out.trans (hB2.mono (Nat.le_of_succ_le hbz)))
                have HPR2 := Lib.hid (show Prs w2 b pd from (hB2.block b hblt).trans HPR.out)
                have hbz2 : b + 1 ≤ w2.heap.size := Nat.le_trans hbz hB2.size
                have HX2 := Lib.hid hB2
                replace c1 := (hB2.cell (p := ⟨g, i * 3 + 1, none⟩) hgt).trans c1
                replace t0 := (hB2.cell (p := ⟨g, t * 3, none⟩) hgt).trans t0
                replace t1 := (hB2.cell (p := ⟨g, t * 3 + 1, none⟩) hgt).trans t1
                replace t2 := (hB2.cell (p := ⟨g, t * 3 + 2, none⟩) hgt).trans t2
                replace ot := (hB2.cell (p := ⟨g3, m, none⟩) hgl3).trans ot
                clear hB2 c0 c2
                go_wp2_with fail
                refine (hbk2 _).mono ?_
                rintro e w3 ⟨rfl, hB3⟩
                have hXX := HX2.out.trans (hB3.mono HX2.out.size)
                have HB3 := Lib.hid (HB2.out.trans (hB3.mono (Nat.le_of_succ_le hbz2)))
                have HPR3 := Lib.hid (show Prs w3 b pd from (hB3.block b hbz2).trans HPR2.out)
                have hbz3 : b + 1 ≤ w3.heap.size := Nat.le_trans hbz2 hB3.size
                have HX3 := Lib.hid hXX
                replace c1 := (hB3.cell (p := ⟨g, i * 3 + 1, none⟩) (Nat.lt_of_lt_of_le hgt HX2.out.size)).trans c1
                replace ot := (hB3.cell (p := ⟨g3, m, none⟩) (Nat.lt_of_lt_of_le hgl3 HX2.out.size)).trans ot
                clear hB3 hXX t0 t1 t2
                by_cases hz : k2 + k = 0
                · have hgo := HGO3.out
                  rw [if_pos hz] at hgo
                  have HGO4 := Lib.hid hgo
                  have q9 : (k2 + k != 0) = false := by simpa using hz
                  have hg33 : g3 < w3.heap.size := Nat.lt_of_lt_of_le hgl3 HX3.out.size
                  have hng : ¬ g3 = w3.heap.size := by omega
                  have HOW : Hid ((w3.alloc (.cells #[] 3)).ownsRow (b + 1) 3 1 (.slice (some ⟨w3.heap.size, 0, none⟩) 0 0) 0 []) := Lib.hid (World.ownsRow_lit w3 #[] 0 hbz3 (by unfold maxLen; omega) rfl)
                  clear hgo HGO3 hz
                  go_wp2_with (at_builtin; refine wpList_append_own _ rfl _ _ 31 rfl (b + 1) 3 i0 (.int .i64 0) 1 8 Tryz.underlying31 H1.out H2.out H3.out H4.out rfl (by decide) _ _ _ rfl HOW.out ⟨g3, 0, none⟩ m oc ((natsI st.reverse).map (Value.int .i64)) rfl (by rw [List.length_map, HNL.out]; omega) ?d1 ?d2 ?d3 ?d4 ?d5 ?_)
                  case d1 =>
                    intro j u hu
                    have h1 := HOJ.out j u hu
                    have h2 := (HX3.out.cell (p := ⟨g3, j, none⟩) hgl3).trans h1
                    have h3 := (World.cell?_of_block (w := w3) (a := ⟨g3, j, none⟩) (heap_alloc_old (r := g3) w3 (.cells #[] 3) hg33)).trans h2
                    by_cases hj0 : j = 0
                    · subst hj0; exact h3
                    · rw [show (⟨g3, 0, none⟩ : Addr).add j = ⟨g3, j, none⟩ by simp [Addr.add, hj0]]; exact h3
                  case d2 =>
                    intro u hu
                    obtain ⟨x, _, rfl⟩ := List.mem_map.1 hu
                    rfl
                  case d3 => unfold maxLen; omega
                  case d4 => omega
                  case d5 => simp; omega
                  intro v4 w4 hown4 hg4 _
                  have HM4 : Hid (MineI w4 (b + 1) v4 (natsI st.reverse)) := Lib.hid (by
                    unfold MineI
                    rw [HNL.out]
                    exact hown4)
                  have hB4 : Below (b + 1) w3 w4 := ((Below.refl _ w3).alloc hbz3 _).grown hg4 (by simp; omega) (fun q hq => by simp [Value.ownBlock] at hq; omega)
                  have HB4 := Lib.hid (HB3.out.trans (hB4.mono (Nat.le_succ b)))
                  have hP4 : Prs w4 b pd := (hB4.block b (by omega)).trans HPR3.out
                  have HPR4 := Lib.hid hP4
                  have hbz4 : b + 1 ≤ w4.heap.size := Nat.le_trans hbz3 hB4.size
                  have hip : i < pd.length := by have := HRD.out.len'; omega
                  have htp : t < pd.length := by omega
                  have ci := hP4.cell (k := i) (List.getElem?_eq_getElem hip)
                  have ct := hP4.cell (k := t) (List.getElem?_eq_getElem htp)
                  have fi := row_free hP4 i
                  have ft := row_free hP4 t
                  have ot4 : w3.cell? ⟨g3, m, none⟩ = some (.int .i64 (t : Int)) := ot
                  have hit : ¬ i = t := by omega
                  have hti2 : ¬ t = i := by omega
                  have HRD4 := Lib.hid (reld_pair HRD2.out hlt hti)
                  obtain ⟨va, vc, hv4, _, _⟩ := mineI_form HM4.out
                  rw [HNL.out] at hv4
                  subst hv4
                  clear hown4 hg4 hB4 hP4
                  go_wp2
                  go_roundw
                  case rel => exact ⟨i + 1, most, st, _, _, by omega, hmost, by have := HMM.out; omega, rfl, by go_num, Lib.hid (fun x hx => by have := HST.out x (List.mem_cons_of_mem _ hx); omega), Lib.hid (ownsRow_setCell_below (ownsRow_setCell_below HM4.out (a := ⟨b, i, none⟩) (Nat.lt_succ_self b) _) (a := ⟨b, t, none⟩) (Nat.lt_succ_self b) _), Lib.hid ((HPR4.out.set i _).set t _), HRD4, Lib.hid ((HB4.out.setCell (p := ⟨b, i, none⟩) (Nat.le_refl _) _).setCell (p := ⟨b, t, none⟩) (Nat.le_refl _) _), by simp; omega, HGO4⟩
                  case measure => simp [intOf]; omega
                · have hgo := HGO3.out
                  rw [if_neg hz] at hgo
                  have HF := Lib.hid (fault_ans HANS.out hgo.symm (by decide))
                  have q9 : (k2 + k != 0) = true := by simpa using hz
                  clear hgo HGO3 hz
                  go_wp2_with fail
                  go_still_tail 9, (by kernel_rfl)
                  change wpList _ _ _ _ _ w3.drew
                  have hBx := (HBW.out.trans (HB3.out.mono (by omega))).drew
                  have HR9 := Lib.hid ((hBx.block w.heap.size (by omega)).trans HH0.out)
                  generalize w3.drew = WQ at hBx HR9 ⊢
                  go_wp2_with (refine wpList_store_rowTo rfl 26 (.tmp 5) (.tmp 93) rfl rfl w.heap.size #[.int .i64 5, .int .i64 p] rfl rfl 26 #[.int .i64 0, .int .i64 0] HR9.out info33 rfl (by simp [Value.oneCell']) ?_)
                  (try simp only [Exit.inBlock, Exit.then])
                  refine bodyPost_ret (v := .tuple #[_, _, _, .agg #[.int .i64 5, .int .i64 p]]) (results_tmp3_row (u := 2) (v := 3) (x := 4) (p := 5) rfl _ _ w.heap.size #[.int .i64 5, .int .i64 p] _ _ _ rfl rfl rfl rfl (run_loadVar_row _ w.heap.size 26 26 #[.int .i64 5, .int .i64 p] (0, 0) _ (setRow_heap _ _ _ _ _ _ HR9.out) Tryz.underlying26 rfl info33)) rfl ⟨?_, below_setRow (HB0.out.trans (hBx.mono (by omega))) (Nat.le_refl _) _⟩
                  rw [HF.out]
                  exact readOf_fault _ _ 5 p _
            · have hgo := HGO2.out
              rw [go_other (by rw [← HK.out]; exact hpos) (by rw [← HK.out]; exact hneg)] at hgo
              have HGO3 := Lib.hid hgo
              clear hgo HGO2
              go_wp2_with (go_at_call 24; refine (hbk _).mono ?_; rintro e w2 ⟨rfl, hB2⟩; have HB2 := Lib.hid (HBL.out.trans (hB2.mono (Nat.le_of_succ_le hbz))); have HM2 := Lib.hid (mineI_below HMI.out hB2); have HPR2 := Lib.hid (show Prs w2 b pd from (hB2.block b hblt).trans HPR.out); have hbz2 : b + 1 ≤ w2.heap.size := Nat.le_trans hbz hB2.size; have c1 := (hB2.cell (p := ⟨g, i * 3 + 1, none⟩) (cell_lt c1)).trans c1; clear hB2)
              go_roundw
              case rel => exact ⟨i + 1, most, st, pr.set i (-1), pd, by omega, hmost, hst, rfl, by go_num, Lib.hid (fun t ht => by have := HST.out t ht; omega), HM2, HPR2, HRD2, HB2, hbz2, HGO3⟩
              case measure => simp [intOf]; omega
        · obtain rfl : i = n := by omega
          have hgo := HGO.out
          rw [HN.out, List.drop_length] at hgo
          cases st with
          | nil =>
            have hRe : R = (0, 0, pr, most) := hgo.symm
            have hF : nestAns s.data.toList = (S, pr, most, 0, 0) := by rw [HANS.out, hRe, if_pos rfl]
            rw [← reld_end HRD.out] at hF
            have HF := Lib.hid hF
            have hpl := HRD.out.len'
            have hBx := HBW.out.trans (HBL.out.mono (by omega))
            have HR9 := Lib.hid ((hBx.block w.heap.size (by omega)).trans HH0.out)
            rw [List.length_nil]
            clear hgo hRe hF
            go_wp2_with (refine wpList_store_rowTo rfl 26 (.tmp 5) (.tmp 132) rfl rfl w.heap.size #[.int .i64 0, .int .i64 0] rfl rfl 26 #[.int .i64 0, .int .i64 0] HR9.out info33 rfl (by simp [Value.oneCell']) ?_)
            (try simp only [Exit.inBlock, Exit.then])
            refine bodyPost_ret (v := .tuple #[_, _, _, .agg #[.int .i64 0, .int .i64 0]]) (results_tmp3_row (u := 2) (v := 3) (x := 4) (p := 5) rfl _ _ w.heap.size #[.int .i64 0, .int .i64 0] _ _ _ rfl rfl rfl rfl (run_loadVar_row _ w.heap.size 26 26 #[.int .i64 0, .int .i64 0] (0, 0) _ (setRow_heap _ _ _ _ _ _ HR9.out) Tryz.underlying26 rfl info33)) rfl ⟨?_, below_setRow (HB0.out.trans (hBx.mono (by omega))) (Nat.le_refl _) _⟩
            rw [HF.out]
            refine ⟨a, ca, some ⟨b, 0, none⟩, i, ?_, toks_setRow (HTA.out.below (by rw [← HBQ.out]; exact HBL.out)) HR9.out _, ?_, by rw [← HN.out]; exact hn0, by rw [← HN.out]; exact hpl, fun ad h => by have : (⟨b, 0, none⟩ : Addr) = ad := (by injection h); rw [← this]; exact Nat.le_of_lt hwb⟩
            · dsimp only
              rw [hpl, ← HN.out]
              rfl
            · refine prs_ints ?_
              unfold Prs
              rw [setRow_other _ _ _ _ (by omega)]; exact HPR.out
          | cons t st =>
            have hti := HST.out t (List.mem_cons_self ..)
            have htl : t < S.length := by rw [← HN.out]; omega
            obtain ⟨⟨J, P, Q⟩, hy⟩ : ∃ y, S[t]? = some y := ⟨S[t]'htl, List.getElem?_eq_getElem htl⟩
            have hRe : R = (5, (P : Int), [], 0) := by rw [← hgo]; show (5, ((tokAt S t).2.1 : Int), ([] : List Int), 0) = _; rw [tokAt_of hy]
            have HF := Lib.hid (fault_ans HANS.out hRe (by decide))
            obtain ⟨g, rfl, c0, c1, c2⟩ := (HTA.out.below (by rw [← HBQ.out]; exact HBL.out)) t _ hy
            dsimp only at c0 c1 c2
            obtain ⟨m, hm⟩ : ∃ m, m = st.length := ⟨_, rfl⟩
            have hot := HOI.out m (t : Int) (by unfold natsI; rw [List.reverse_cons, List.map_append, List.getElem?_append_right (by simp; omega)]; simp [hm])
            obtain ⟨g3, rfl, _, _, ot⟩ := hot
            rw [List.length_cons, ← hm] at hst hoc ⊢
            have w1' : IntKind.i64.wrap ((m : Int) + 1 - 1) = (m : Int) := by rw [IntKind.wrap_i64]; omega
            have w2' : IntKind.i64.wrap (m : Int) = (m : Int) := by rw [IntKind.wrap_i64]; omega
            have j0 : (0 : Int) ≤ m := by omega
            have j1 : (m : Int) < (m : Int) + 1 := by omega
            have jt : (t : Int) < i := by omega
            have jt0 : (0 : Int) ≤ t := by omega
            clear hgo hRe hy htl hm HOI
            go_wp2
            go_still_tail 14, (by kernel_rfl)
            change wpList _ _ _ _ _ wr.drew
            have hBx := (HBW.out.trans (HBL.out.mono (by omega))).drew
            have HR9 := Lib.hid ((hBx.block w.heap.size (by omega)).trans HH0.out)
            generalize wr.drew = WQ at hBx HR9 ⊢
            go_wp2_with (refine wpList_store_rowTo rfl 26 (.tmp 5) (.tmp 128) rfl rfl w.heap.size #[.int .i64 5, .int .i64 P] rfl rfl 26 #[.int .i64 0, .int .i64 0] HR9.out info33 rfl (by simp [Value.oneCell']) ?_)
            (try simp only [Exit.inBlock, Exit.then])
            refine bodyPost_ret (v := .tuple #[_, _, _, .agg #[.int .i64 5, .int .i64 P]]) (results_tmp3_row (u := 2) (v := 3) (x := 4) (p := 5) rfl _ _ w.heap.size #[.int .i64 5, .int .i64 P] _ _ _ rfl rfl rfl rfl (run_loadVar_row _ w.heap.size 26 26 #[.int .i64 5, .int .i64 P] (0, 0) _ (setRow_heap _ _ _ _ _ _ HR9.out) Tryz.underlying26 rfl info33)) rfl ⟨?_, below_setRow (HB0.out.trans (hBx.mono (by omega))) (Nat.le_refl _) _⟩
            rw [HF.out]
            exact readOf_fault _ _ 5 P _


theorem rnest_any (s : ByteArray) (w : World) :
    Calls Tryz.prog 12 #[.string s] w fun e w' => ReadOf w.heap.size (nestAns s.data.toList) e w' ∧ Below w.heap.size w w' := by
  rcases all_cases s.data.toList with ⟨f, g, h1, h2, _, _⟩ | ⟨T, h1, h2, h3⟩
  · rw [nest_bad (sem_bad h1 h2) h2]
    exact rnest_bad s w f g (sem_bad h1 h2) h2
  · have hT := tiles_len T 0 h3 (Nat.zero_le _)
    have hl := sems_len s.data.toList T none
    have h0 : (semiO none).length = 0 := rfl
    have hOr := sems_ord (l := s.data.toList) T 0 0 none h3 (Nat.le_refl _) (Nat.zero_le _) (fun z h => by cases h)
    rw [ba_list] at hOr
    exact rnest_good s w _ (sem_good h1) (by omega) (ord_mem _ 0 hOr)
set_option maxRecDepth 100000 in
set_option maxHeartbeats 8000000 in
theorem lawpairs_any (s : ByteArray) (w : World) (hM : Mx w) :
    Calls Tryz.prog 4 #[.string s] w fun e w' => e = .returned (.bool true) ∧ Below w.heap.size w w' := by
  have hM0 := hM.lt
  have HM := Lib.hid hM
  clear hM
  by_cases hbig : 2000 < s.size
  · have i1 : (2000 : Int) < s.size := by omega
    go_enter Tryz.func4, Tryz.ntmps4
    go_wp2_with (go_at_call 9; refine (fixed9_any _ HM.out).mono ?_; rintro e w1 ⟨rfl, hB⟩)
    go_ret
    exact ⟨rfl, hB⟩
  have i1 : ¬ (2000 : Int) < s.size := by omega
  have h1 := fun w hM => nof_any s w hM
  have h2 := fun w hM => depth_any s w hM
  have h3 := fun w => rnest_any s w
  obtain ⟨A, hA⟩ : ∃ A, A = nestAns s.data.toList := ⟨_, rfl⟩
  rw [← hA] at h1 h2 h3
  clear hA hbig
  obtain ⟨T, P, m, f, g⟩ := A
  unfold OfOf at h1
  unfold ReadOf at h3
  dsimp only at h1 h2 h3
  have hne := fun w => fault_eq f g w
  have hgd := fun u v w => fault_guard u v #[.int .i64 f, .int .i64 g] #[.int .i64 f, .int .i64 g] w
  go_enter Tryz.func4, Tryz.ntmps4
  go_wp2_with fail
  refine (h1 _ HM.out).mono ?_
  rintro e w1 ⟨⟨a, ca, b, cb, rfl, hT, hI, hl1, hl2⟩, hB⟩
  have HC1 := Lib.hid hB
  have HT1 := Lib.hid hT
  have HI1 := Lib.hid hI
  clear hB hT hI
  go_wp2_with fail
  have hX1 := heap_alloc_new w1 (.cells #[.int .i64 f, .int .i64 g] 26)
  have hz1 : w1.heap.size < (w1.alloc (.cells #[.int .i64 f, .int .i64 g] 26)).heap.size := by simp
  have hY1 : Below w1.heap.size w1 (w1.alloc (.cells #[.int .i64 f, .int .i64 g] 26)) := (Below.refl _ _).alloc (Nat.le_refl _) _
  generalize w1.alloc (.cells #[.int .i64 f, .int .i64 g] 26) = W1 at hX1 hz1 hY1 ⊢
  have HX1 := Lib.hid hX1
  have HB1 := Lib.hid (below_chain HC1.out hY1)
  clear hX1
  have HM1 := Lib.hid (HM.out.below HB1.out hM0)
  refine (h2 _ HM1.out).mono ?_
  rintro e w2 ⟨rfl, hB⟩
  have HC2 := Lib.hid (below_chain HB1.out hB)
  have HR12 := Lib.hid ((hB.block w1.heap.size hz1).trans HX1.out)
  have HT2 := Lib.hid (HT1.out.below (hY1.trans (hB.mono hY1.size)))
  have HI2 := Lib.hid (HI1.out.below (hY1.trans (hB.mono hY1.size)))
  have hz12 : w1.heap.size < w2.heap.size := Nat.lt_of_lt_of_le hz1 hB.size
  clear hB hY1
  go_wp2_with fail
  have hX2 := heap_alloc_new w2 (.cells #[.int .i64 f, .int .i64 g] 26)
  have hz2 : w2.heap.size < (w2.alloc (.cells #[.int .i64 f, .int .i64 g] 26)).heap.size := by simp
  have hY2 : Below w2.heap.size w2 (w2.alloc (.cells #[.int .i64 f, .int .i64 g] 26)) := (Below.refl _ _).alloc (Nat.le_refl _) _
  generalize w2.alloc (.cells #[.int .i64 f, .int .i64 g] 26) = W2 at hX2 hz2 hY2 ⊢
  have HX2 := Lib.hid hX2
  have HB2 := Lib.hid (below_chain HC2.out hY2)
  clear hX2
  refine (h3 _).mono ?_
  rintro e w3 ⟨⟨a', ca', b', cb', rfl, hT', hI', _, _, _⟩, hB⟩
  have HC3 := Lib.hid (below_chain HB2.out hB)
  have HR13 := Lib.hid (((hY2.trans (hB.mono hY2.size)).block w1.heap.size hz12).trans HR12.out)
  have HR23 := Lib.hid ((hB.block w2.heap.size hz2).trans HX2.out)
  have HT3 := Lib.hid (HT2.out.below (hY2.trans (hB.mono hY2.size)))
  have HI3 := Lib.hid (HI2.out.below (hY2.trans (hB.mono hY2.size)))
  have HT3' := Lib.hid hT'
  have HI3' := Lib.hid hI'
  have hz13 : w1.heap.size < w3.heap.size := Nat.lt_of_lt_of_le hz12 (Nat.le_trans hY2.size hB.size)
  have hz23 : w2.heap.size < w3.heap.size := Nat.lt_of_lt_of_le hz2 hB.size
  clear hB hY2 hT' hI'
  go_wp2_with fail
  have hX3 := heap_alloc_new w3 (.cells #[.int .i64 f, .int .i64 g] 26)
  have hz3 : w3.heap.size < (w3.alloc (.cells #[.int .i64 f, .int .i64 g] 26)).heap.size := by simp
  have hY3 : Below w3.heap.size w3 (w3.alloc (.cells #[.int .i64 f, .int .i64 g] 26)) := (Below.refl _ _).alloc (Nat.le_refl _) _
  generalize w3.alloc (.cells #[.int .i64 f, .int .i64 g] 26) = W3 at hX3 hz3 hY3 ⊢
  have HX3 := Lib.hid hX3
  have HB3 := Lib.hid (below_chain HC3.out hY3)
  clear hX3
  have HM3 := Lib.hid (HM.out.below HB3.out hM0)
  refine (fixed9_any _ HM3.out).mono ?_
  rintro e w4 ⟨rfl, hB⟩
  have HB4 := Lib.hid (below_chain HB3.out hB)
  have hY := hY3.trans (hB.mono hY3.size)
  have R1 := (hY.block w1.heap.size hz13).trans HR13.out
  have R2 := (hY.block w2.heap.size hz23).trans HR23.out
  have R3 := (hB.block w3.heap.size hz3).trans HX3.out
  have a0 := cell_of_row _ _ 0 _ _ _ R1
  have a1 := cell_of_row _ _ 1 _ _ _ R1
  have b0 := cell_of_row _ _ 0 _ _ _ R2
  have b1 := cell_of_row _ _ 1 _ _ _ R2
  have c0 := cell_of_row _ _ 0 _ _ _ R3
  have c1 := cell_of_row _ _ 1 _ _ _ R3
  simp only [List.getElem?_toArray, List.getElem?_cons_zero, List.getElem?_cons_succ] at a0 a1 b0 b1 c0 c1
  have HT4 := Lib.hid (HT3.out.below hY)
  have HI4 := Lib.hid (HI3.out.below hY)
  have HT4' := Lib.hid (HT3'.out.below hY)
  have HI4' := Lib.hid (HI3'.out.below hY)
  clear hB hY hY3 R1 R2 R3
  go_wp2_with fail
  refine (same_yes _ a a' ca ca' T HT4.out HT4'.out (by unfold maxLen; omega)).mono ?_
  rintro e w5 ⟨rfl, hB⟩
  have HB5 := Lib.hid (below_chain HB4.out hB)
  have HI5 := Lib.hid (HI4.out.below hB)
  have HI5' := Lib.hid (HI4'.out.below hB)
  clear hB
  go_wp2_with fail
  have hi := ints_yes _ b b' cb cb' P HI5.out HI5'.out (by unfold maxLen; omega)
  rw [hl2] at hi
  refine hi.mono ?_
  rintro e w6 ⟨rfl, hB⟩
  have HB6 := Lib.hid (below_chain HB5.out hB)
  clear hB
  go_wp2_with fail
  go_ret
  exact ⟨by simp, HB6.out⟩
end Go.Proofs.YtbkmlldhjchhjaaGreat
