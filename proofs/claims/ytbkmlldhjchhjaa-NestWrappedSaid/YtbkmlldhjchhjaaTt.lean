/-
  Layer 9: contract of the law's fixed answers; the law NestWithin.
-/
import Derived.Test.YtbkmlldhjchhjaaTs
namespace Go.Proofs.Ytbkmlldhjchhjaa
open Go.ChangeShapes Go.WideShapes Go.ChangeAt Go.RowKit

theorem ints_new (w : World) (P : List Int) (c : Array Value) (hc : c = (P.map (Value.int .i64)).toArray) : Ints (w.alloc (.cells c 3)) (some ⟨w.heap.size, 0, none⟩) P := by
  subst hc
  exact prs_ints (heap_alloc_new w _)
set_option maxRecDepth 100000 in
set_option maxHeartbeats 8000000 in
theorem fixed9_any (w : World) (hM : Mx w) :
    Calls Try.prog 34 #[] w fun e w' => e = .returned (.bool true) ∧ Below w.heap.size w w' := by
  have h1 : ∀ w, Mx w → Calls Try.prog 33 #[.string ⟨#[102, 40, 97, 91, 49, 93, 41]⟩] w fun e w' => (∃ a ca b cb, e = .returned (.tuple #[.slice a 8 ca, .slice b 8 cb, .agg #[.int .i64 0, .int .i64 0]]) ∧ Ints w' b [-1, 6, -1, 5, -1, 3, 1, -1]) ∧ Below w.heap.size w w' := fun w hM => by
    refine (nof_any _ w hM).mono ?_
    rw [show (⟨#[102, 40, 97, 91, 49, 93, 41]⟩ : ByteArray).data.toList = [102, 40, 97, 91, 49, 93, 41] from rfl, lit9a]
    rintro e w' ⟨⟨a, ca, b, cb, rfl, hT, hI, _, _⟩, hB⟩
    exact ⟨⟨a, ca, b, cb, rfl, hI⟩, hB⟩
  have h2 : ∀ w, Mx w → Calls Try.prog 33 #[.string ⟨#[40, 93]⟩] w fun e w' => (∃ a ca b cb, e = .returned (.tuple #[.slice a 0 ca, .slice b 0 cb, .agg #[.int .i64 5, .int .i64 1]])) ∧ Below w.heap.size w w' := fun w hM => by
    refine (nof_any _ w hM).mono ?_
    rw [show (⟨#[40, 93]⟩ : ByteArray).data.toList = [40, 93] from rfl, lit9b]
    rintro e w' ⟨⟨a, ca, b, cb, rfl, hT, hI, _, _⟩, hB⟩
    exact ⟨⟨a, ca, b, cb, rfl⟩, hB⟩
  have h3 : ∀ w, Mx w → Calls Try.prog 35 #[.string ⟨#[97, 40, 98, 41, 123, 99, 91, 49, 93, 125]⟩] w fun e w' => e = .returned (.tuple #[.int .i64 2, .agg #[.int .i64 0, .int .i64 0]]) ∧ Below w.heap.size w w' := fun w hM => by
    have h := depth_any ⟨#[97, 40, 98, 41, 123, 99, 91, 49, 93, 125]⟩ w hM
    rw [show (⟨#[97, 40, 98, 41, 123, 99, 91, 49, 93, 125]⟩ : ByteArray).data.toList = [97, 40, 98, 41, 123, 99, 91, 49, 93, 125] from rfl, lit9c] at h
    exact h
  have hiy : ∀ w a ca cb, Ints w a [-1, 6, -1, 5, -1, 3, 1, -1] → Calls Try.prog 47 #[.slice a 8 ca, .slice (some ⟨w.heap.size, 0, none⟩) 8 cb] (w.alloc (.cells ((([-1, 6, -1, 5, -1, 3, 1, -1] : List Int).map (Value.int .i64)).toArray) 3)) fun e w' => e = .returned (.bool true) ∧ Below w.heap.size w w' := fun w a ca cb h => by
    refine (ints_yes (w.alloc _) a (some ⟨w.heap.size, 0, none⟩) ca cb [-1, 6, -1, 5, -1, 3, 1, -1] (h.below ((Below.refl _ _).alloc (Nat.le_refl _) _)) (ints_new w _ _ rfl) (by unfold maxLen; simp)).mono ?_
    rintro e w' ⟨rfl, hB⟩
    exact ⟨rfl, ((Below.refl w.heap.size w).alloc (Nat.le_refl _) _).trans (hB.mono (by simp))⟩
  obtain ⟨i0, hi, hy0, hy1, hy2⟩ := info_parts info3n
  have hs1 : ¬ 8 * i0.size > 2 ^ 24 := by rw [hy1]; decide
  have hs2 : ¬ 8 * i0.size = 0 := by rw [hy1]; decide
  have HZ := Lib.hid hy1
  have heq := fun w => fault_eq 0 0 w
  have hge := fun u v w => fault_guard u v #[.int .i64 0, .int .i64 0] #[.int .i64 0, .int .i64 0] w
  have heq2 := fun w => fault_eq 5 1 w
  have hge2 := fun u v w => fault_guard u v #[.int .i64 5, .int .i64 1] #[.int .i64 5, .int .i64 1] w
  have hM0 := hM.lt
  have HM := Lib.hid hM
  clear hM hy1
  have TOK1 := True.intro
  go_enter Try.func34, Try.ntmps34
  go_wp2_with (first
    | (go_at_call 33; clear TOK1; refine (h1 _ HM.out).mono ?_; rintro e w1 ⟨⟨a, ca, b, cb, rfl, hI⟩, hB1⟩; have HI := Lib.hid hI; clear hI)
    | (refine wpList_store_rowTo rfl 33 (.tmp 3) (.tmp 13) rfl rfl w1.heap.size #[.int .i64 0, .int .i64 0] rfl rfl 33 #[.int .i64 0, .int .i64 0] (heap_alloc_new w1 _) info33 rfl (by simp [Value.oneCell']) ?_; have hX1 := setRow_heap _ w1.heap.size _ #[.int .i64 0, .int .i64 0] _ _ (heap_alloc_new w1 (.cells #[.int .i64 0, .int .i64 0] 33)); have hY1 : Below w1.heap.size w1 _ := below_setRow ((Below.refl _ w1).alloc (Nat.le_refl _) (.cells #[.int .i64 0, .int .i64 0] 33)) (Nat.le_refl _) #[.int .i64 0, .int .i64 0]; have hz1 : w1.heap.size < ((w1.alloc (.cells #[.int .i64 0, .int .i64 0] 33)).setRow w1.heap.size #[.int .i64 0, .int .i64 0]).heap.size := (Array.getElem?_eq_some_iff.1 hX1).1; generalize (w1.alloc (.cells #[.int .i64 0, .int .i64 0] 33)).setRow w1.heap.size #[.int .i64 0, .int .i64 0] = W1 at hX1 hY1 hz1 ⊢; have a0 := cell_of_row _ _ 0 _ _ _ hX1; have a1 := cell_of_row _ _ 1 _ _ _ hX1; simp only [List.getElem?_toArray, List.getElem?_cons_zero, List.getElem?_cons_succ] at a0 a1; have hBw := hB1.trans (hY1.mono hB1.size); replace HI := Lib.hid (HI.out.below hY1); clear hX1 hY1 hB1 hz1)
    | (go_at_call 33; refine (h2 _ (HM.out.below hBw hM0)).mono ?_; rintro e w2 ⟨⟨a', ca', b', cb', rfl⟩, hB2⟩; replace HI := Lib.hid (HI.out.below hB2); replace a0 := (hB2.cell (p := ⟨_, _, none⟩) (cell_lt a0)).trans a0; replace a1 := (hB2.cell (p := ⟨_, _, none⟩) (cell_lt a1)).trans a1; replace hBw := below_chain hBw hB2; clear hB2)
    | (refine wpList_store_rowTo rfl 33 (.tmp 6) (.tmp 18) rfl rfl w2.heap.size #[.int .i64 5, .int .i64 1] rfl rfl 33 #[.int .i64 0, .int .i64 0] (heap_alloc_new w2 _) info33 rfl (by simp [Value.oneCell']) ?_; have hX1 := setRow_heap _ w2.heap.size _ #[.int .i64 5, .int .i64 1] _ _ (heap_alloc_new w2 (.cells #[.int .i64 0, .int .i64 0] 33)); have hY1 : Below w2.heap.size w2 _ := below_setRow ((Below.refl _ w2).alloc (Nat.le_refl _) (.cells #[.int .i64 0, .int .i64 0] 33)) (Nat.le_refl _) #[.int .i64 5, .int .i64 1]; have hz1 : w2.heap.size < ((w2.alloc (.cells #[.int .i64 0, .int .i64 0] 33)).setRow w2.heap.size #[.int .i64 5, .int .i64 1]).heap.size := (Array.getElem?_eq_some_iff.1 hX1).1; generalize (w2.alloc (.cells #[.int .i64 0, .int .i64 0] 33)).setRow w2.heap.size #[.int .i64 5, .int .i64 1] = W2 at hX1 hY1 hz1 ⊢; have b0 := cell_of_row _ _ 0 _ _ _ hX1; have b1 := cell_of_row _ _ 1 _ _ _ hX1; simp only [List.getElem?_toArray, List.getElem?_cons_zero, List.getElem?_cons_succ] at b0 b1; replace a0 := (hY1.cell (p := ⟨_, _, none⟩) (cell_lt a0)).trans a0; replace a1 := (hY1.cell (p := ⟨_, _, none⟩) (cell_lt a1)).trans a1; replace HI := Lib.hid (HI.out.below hY1); replace hBw := below_chain hBw hY1; clear hX1 hY1 hz1)
    | (go_at_call 35; refine (h3 _ (HM.out.below hBw hM0)).mono ?_; rintro e w3 ⟨rfl, hB2⟩; replace HI := Lib.hid (HI.out.below hB2); replace a0 := (hB2.cell (p := ⟨_, _, none⟩) (cell_lt a0)).trans a0; replace a1 := (hB2.cell (p := ⟨_, _, none⟩) (cell_lt a1)).trans a1; replace b0 := (hB2.cell (p := ⟨_, _, none⟩) (cell_lt b0)).trans b0; replace b1 := (hB2.cell (p := ⟨_, _, none⟩) (cell_lt b1)).trans b1; replace hBw := below_chain hBw hB2; clear hB2)
    | (refine wpList_store_rowTo rfl 33 (.tmp 8) (.tmp 22) rfl rfl w3.heap.size #[.int .i64 0, .int .i64 0] rfl rfl 33 #[.int .i64 0, .int .i64 0] (heap_alloc_new w3 _) info33 rfl (by simp [Value.oneCell']) ?_; have hX1 := setRow_heap _ w3.heap.size _ #[.int .i64 0, .int .i64 0] _ _ (heap_alloc_new w3 (.cells #[.int .i64 0, .int .i64 0] 33)); have hY1 : Below w3.heap.size w3 _ := below_setRow ((Below.refl _ w3).alloc (Nat.le_refl _) (.cells #[.int .i64 0, .int .i64 0] 33)) (Nat.le_refl _) #[.int .i64 0, .int .i64 0]; have hz1 : w3.heap.size < ((w3.alloc (.cells #[.int .i64 0, .int .i64 0] 33)).setRow w3.heap.size #[.int .i64 0, .int .i64 0]).heap.size := (Array.getElem?_eq_some_iff.1 hX1).1; generalize (w3.alloc (.cells #[.int .i64 0, .int .i64 0] 33)).setRow w3.heap.size #[.int .i64 0, .int .i64 0] = W3 at hX1 hY1 hz1 ⊢; have c0 := cell_of_row _ _ 0 _ _ _ hX1; have c1 := cell_of_row _ _ 1 _ _ _ hX1; simp only [List.getElem?_toArray, List.getElem?_cons_zero, List.getElem?_cons_succ] at c0 c1; replace a0 := (hY1.cell (p := ⟨_, _, none⟩) (cell_lt a0)).trans a0; replace a1 := (hY1.cell (p := ⟨_, _, none⟩) (cell_lt a1)).trans a1; replace b0 := (hY1.cell (p := ⟨_, _, none⟩) (cell_lt b0)).trans b0; replace b1 := (hY1.cell (p := ⟨_, _, none⟩) (cell_lt b1)).trans b1; replace HI := Lib.hid (HI.out.below hY1); replace hBw := below_chain hBw hY1; clear hX1 hY1 hz1)
    | (refine wpList_buildSlice rfl 44 3 8 _ rfl ((([-1, 6, -1, 5, -1, 3, 1, -1] : List Int).map (Value.int .i64)).toArray) i0 _ Try.underlying44 hi hy0 hs1 hs2 (by rw [HZ.out]; kernel_rfl) ?_)
    | (go_at_call 47; refine (hiy _ b cb _ HI.out).mono ?_; rintro e w4 ⟨rfl, hB2⟩; replace a0 := (hB2.cell (p := ⟨_, _, none⟩) (cell_lt a0)).trans a0; replace a1 := (hB2.cell (p := ⟨_, _, none⟩) (cell_lt a1)).trans a1; replace b0 := (hB2.cell (p := ⟨_, _, none⟩) (cell_lt b0)).trans b0; replace b1 := (hB2.cell (p := ⟨_, _, none⟩) (cell_lt b1)).trans b1; replace c0 := (hB2.cell (p := ⟨_, _, none⟩) (cell_lt c0)).trans c0; replace c1 := (hB2.cell (p := ⟨_, _, none⟩) (cell_lt c1)).trans c1; replace hBw := below_chain hBw hB2; clear hB2))
  go_ret
  exact ⟨rfl, hBw⟩
set_option maxRecDepth 100000 in
set_option maxHeartbeats 4000000 in
theorem within_bad (s : ByteArray) (w : World) (hM : Mx w) (f g : Int) (hA : nestAns s.data.toList = ([], [], 0, f, g)) (hf : f ≠ 0) :
    Calls Try.prog 14 #[.string s] w fun e w' => e = .returned (.bool true) ∧ Below w.heap.size w w' := by
  have hM0 := hM.lt
  have HM := Lib.hid hM
  clear hM
  have h1 := fun w hM => nof_any s w hM
  rw [hA] at h1
  have hne := fun w => fault_neq f g w
  rw [decide_eq_false hf] at hne
  have hgd := fun u v w => fault_ngd u v #[.int .i64 f, .int .i64 g] #[.int .i64 0, .int .i64 0] w
  have q1 : (f != 0) = true := by simpa using hf
  clear hA hf
  go_enter Try.func14, Try.ntmps14
  go_wp2_with (first
    | (go_at_call 33; refine (h1 _ HM.out).mono ?_; rintro e w1 ⟨⟨a, ca, b, cb, rfl, hT, hI, hl1, hl2⟩, hB1⟩; clear hT hI hl1 hl2)
    | (refine wpList_store_rowTo rfl 33 (.tmp 5) (.tmp 13) rfl rfl w1.heap.size #[.int .i64 f, .int .i64 g] rfl rfl 33 #[.int .i64 0, .int .i64 0] (heap_alloc_new w1 _) info33 rfl (by simp [Value.oneCell']) ?_; have hX1 := setRow_heap _ w1.heap.size _ #[.int .i64 f, .int .i64 g] _ _ (heap_alloc_new w1 (.cells #[.int .i64 0, .int .i64 0] 33)); have hY1 : Below w1.heap.size w1 _ := below_setRow ((Below.refl _ w1).alloc (Nat.le_refl _) (.cells #[.int .i64 0, .int .i64 0] 33)) (Nat.le_refl _) #[.int .i64 f, .int .i64 g]; have hz1 : w1.heap.size < ((w1.alloc (.cells #[.int .i64 0, .int .i64 0] 33)).setRow w1.heap.size #[.int .i64 f, .int .i64 g]).heap.size := (Array.getElem?_eq_some_iff.1 hX1).1; generalize (w1.alloc (.cells #[.int .i64 0, .int .i64 0] 33)).setRow w1.heap.size #[.int .i64 f, .int .i64 g] = W1 at hX1 hY1 hz1 ⊢; have a0 := cell_of_row _ _ 0 _ _ _ hX1; have a1 := cell_of_row _ _ 1 _ _ _ hX1; simp only [List.getElem?_toArray, List.getElem?_cons_zero, List.getElem?_cons_succ] at a0 a1; have hBw := hB1.trans (hY1.mono hB1.size); clear hX1 hY1 hB1 hz1)
    | (go_at_call 34; refine (fixed9_any _ (HM.out.below hBw hM0)).mono ?_; rintro e w2 ⟨rfl, hB2⟩; replace a0 := (hB2.cell (p := ⟨_, _, none⟩) (cell_lt a0)).trans a0; replace a1 := (hB2.cell (p := ⟨_, _, none⟩) (cell_lt a1)).trans a1; replace hBw := below_chain hBw hB2; clear hB2))
  go_ret
  exact ⟨rfl, hBw⟩
set_option maxRecDepth 100000 in
set_option maxHeartbeats 16000000 in
theorem within_good (s : ByteArray) (w : World) (hM : Mx w) (S : List (Nat × Nat × Nat)) (P : List Int) (mm : Nat) (hA : nestAns s.data.toList = (S, P, mm, 0, 0)) (hpl : P.length = S.length) (hI : Inv S.length S.length [] P) :
    Calls Try.prog 14 #[.string s] w fun e w' => e = .returned (.bool true) ∧ Below w.heap.size w w' := by
  have hM0 := hM.lt
  have HM := Lib.hid hM
  clear hM
  have h1 := fun w hM => nof_any s w hM
  rw [hA] at h1
  unfold OfOf at h1
  dsimp only at h1
  rw [hpl] at h1
  obtain ⟨n, hn⟩ : ∃ n, n = S.length := ⟨_, rfl⟩
  rw [← hn] at h1 hpl hI
  have hne := fun w => fault_neq 0 0 w
  rw [show (!(decide ((0 : Int) = 0) && decide ((0 : Int) = 0))) = false from rfl] at hne
  have hgd := fun u v w => fault_ngd u v #[.int .i64 0, .int .i64 0] #[.int .i64 0, .int .i64 0] w
  have HIV := Lib.hid hI
  have HPL := Lib.hid hpl
  clear hA hn hI hpl
  go_enter Try.func14, Try.ntmps14
  go_wp2_with (first
    | (go_at_call 33; refine (h1 _ HM.out).mono ?_; rintro e w1 ⟨⟨a, ca, b, cb, rfl, hT, hI, hl1, hl2⟩, hB1⟩; have HIN := Lib.hid hI; clear hT hI hl2)
    | (refine wpList_store_rowTo rfl 33 (.tmp 5) (.tmp 13) rfl rfl w1.heap.size #[.int .i64 0, .int .i64 0] rfl rfl 33 #[.int .i64 0, .int .i64 0] (heap_alloc_new w1 _) info33 rfl (by simp [Value.oneCell']) ?_; have hX1 := setRow_heap _ w1.heap.size _ #[.int .i64 0, .int .i64 0] _ _ (heap_alloc_new w1 (.cells #[.int .i64 0, .int .i64 0] 33)); have hY1 : Below w1.heap.size w1 _ := below_setRow ((Below.refl _ w1).alloc (Nat.le_refl _) (.cells #[.int .i64 0, .int .i64 0] 33)) (Nat.le_refl _) #[.int .i64 0, .int .i64 0]; have hz1 : w1.heap.size < ((w1.alloc (.cells #[.int .i64 0, .int .i64 0] 33)).setRow w1.heap.size #[.int .i64 0, .int .i64 0]).heap.size := (Array.getElem?_eq_some_iff.1 hX1).1; generalize (w1.alloc (.cells #[.int .i64 0, .int .i64 0] 33)).setRow w1.heap.size #[.int .i64 0, .int .i64 0] = W1 at hX1 hY1 hz1 ⊢; have a0 := cell_of_row _ _ 0 _ _ _ hX1; have a1 := cell_of_row _ _ 1 _ _ _ hX1; simp only [List.getElem?_toArray, List.getElem?_cons_zero, List.getElem?_cons_succ] at a0 a1; have hBw := hB1.trans (hY1.mono hB1.size); replace HIN := Lib.hid (HIN.out.below hY1); clear hX1 hY1 hB1 hz1)
    | (go_at_call 34; refine (fixed9_any _ (HM.out.below hBw hM0)).mono ?_; rintro e w2 ⟨rfl, hB2⟩; replace a0 := (hB2.cell (p := ⟨_, _, none⟩) (cell_lt a0)).trans a0; replace a1 := (hB2.cell (p := ⟨_, _, none⟩) (cell_lt a1)).trans a1; replace HIN := Lib.hid (HIN.out.below hB2); replace hBw := below_chain hBw hB2; clear hB2))
  clear hne hgd h1 a0 a1
  go_loopw [6] (fun kv wr => ∃ (i : Nat), i ≤ n ∧ kv = .int .i64 i ∧ Hid (Below w.heap.size w wr) ∧ Hid (Ints wr b P)) (fun kv _ => n - (intOf kv).toNat)
  case atStart => exact ⟨0, by omega, rfl, Lib.hid hBw, HIN⟩
  case round =>
    clear HIN hBw
    obtain ⟨i, hi, rfl, HBW, HIN⟩ := hrel
    by_cases hlt : i < n
    · have j1 : (i : Int) < n := by omega
      have j0 : (0 : Int) ≤ i := by omega
      obtain ⟨v, hv, hcase⟩ := HIV.out.each i hlt
      obtain ⟨g, rfl, c0⟩ := HIN.out i _ hv
      by_cases hv1 : v = -1
      · subst hv1
        clear hcase
        go_wp2
        go_roundw
        case rel => exact ⟨i + 1, by omega, by go_num, HBW, HIN⟩
        case measure => simp [intOf]; omega
      · obtain ⟨q, rfl, hq1, hq2, hq3⟩ := hcase.resolve_left hv1
        have d0 := HIN.out q _ hq3
        obtain ⟨g', hg', d0⟩ := d0
        have hg' : g = g' := by injection hg' with hg'; injection hg'
        subst hg'
        have k1 : ((q : Int) == -1) = false := by simp <;> omega
        have k2 : ((q : Int) == i) = false := int_not hq2
        have j2 : (q : Int) < n := by omega
        have j3 : (0 : Int) ≤ q := by omega
        have HV := Lib.hid hv
        clear hcase hv1 hv hq3
        go_wp2
        obtain ⟨wo, rfl⟩ : ∃ wo : World, wo = wr := ⟨_, rfl⟩
        go_loopw [7] (fun kv wy => ∃ (k : Nat), i < k ∧ k ≤ n ∧ kv = .int .i64 k ∧ Hid (Below w.heap.size w wy) ∧ Hid (Ints wy (some ⟨g, 0, none⟩) P)) (fun kv _ => n - (intOf kv).toNat)
        case atStart => exact ⟨i + 1, by omega, by omega, by go_num, HBW, HIN⟩
        case round =>
          clear HBW HIN c0 d0
          obtain ⟨k, hk1, hk2, rfl, HBW, HIN⟩ := hrel
          obtain ⟨g2, hg2, c0⟩ := HIN.out i _ HV.out
          have hg2 : g = g2 := by injection hg2 with hg2; injection hg2
          subst hg2
          have m0 : (0 : Int) ≤ k := by omega
          by_cases hkq : k < q
          · have m1 : (k : Int) < q := by omega
            by_cases h300 : k - i < 300
            · have m2 : (k : Int) - i < 300 := by omega
              have m3 : (k : Int) < n := by omega
              obtain ⟨u, hu⟩ : ∃ u, P[k]? = some u := ⟨P[k]'(by rw [HPL.out]; omega), List.getElem?_eq_getElem (by rw [HPL.out]; omega)⟩
              have hin := (HIV.out.pair i q (by omega) hq1 HV.out).2 k u hk1 hkq hu
              obtain ⟨g3, hg3, e0⟩ := HIN.out k _ hu
              have hg3 : g = g3 := by injection hg3 with hg3; injection hg3
              subst hg3
              clear hu
              by_cases hu1 : u = -1
              · subst hu1
                clear hin
                go_wp2
                go_quiet (fail)
                go_wp2
                go_roundw
                case rel => exact ⟨k + 1, by omega, by omega, by go_num, Lib.hid (below_drewN HBW.out _), HIN⟩
                case measure => simp [intOf]; omega
              · obtain ⟨r, rfl⟩ : ∃ r : Nat, u = r := ⟨u.toNat, by have := hin.resolve_left hu1; omega⟩
                have hin2 := hin.resolve_left hu1
                have n1 : ((r : Int) != -1) = true := by simp <;> omega
                have n2 : ¬ (r : Int) ≤ i := by omega
                have n3 : ¬ (q : Int) ≤ r := by omega
                have n4 : decide (r ≤ i) = false := decide_eq_false (by omega)
                have n5 : decide (q ≤ r) = false := decide_eq_false (by omega)
                have n6 : ((r : Int) == -1) = false := by simp <;> omega
                clear hin hin2 hu1
                go_wp2
                go_quiet (fail)
                go_wp2
                go_roundw
                case rel => exact ⟨k + 1, by omega, by omega, by go_num, Lib.hid (below_drewN HBW.out _), HIN⟩
                case measure => simp [intOf]; omega
            · have m2 : ¬ (k : Int) - i < 300 := by omega
              go_wp2
              go_roundw
              case rel => exact ⟨i + 1, by omega, by go_num, HBW, HIN⟩
              case measure => simp [intOf]; omega
          · have m1 : ¬ (k : Int) < q := by omega
            go_wp2
            go_roundw
            case rel => exact ⟨i + 1, by omega, by go_num, HBW, HIN⟩
            case measure => simp [intOf]; omega
    · obtain rfl : i = n := by omega
      go_wp2
      go_ret
      exact ⟨rfl, HBW.out⟩
theorem lawwithin_any (s : ByteArray) (w : World) (hM : Mx w) :
    Calls Try.prog 14 #[.string s] w fun e w' => e = .returned (.bool true) ∧ Below w.heap.size w w' := by
  rcases nest_cases s.data.toList with ⟨f, g, h1, h2⟩ | ⟨S, P, m, h1, h2, h3, h4⟩
  · exact within_bad s w hM f g h1 h2
  · exact within_good s w hM S P m h1 h4 (nest_inv s.data.toList S S 0 [] 0 _ P 0 m (by omega) (inv_start _) h3)
end Go.Proofs.Ytbkmlldhjchhjaa
