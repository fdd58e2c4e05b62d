/-
  Layer 9: contract of the law NestWrapped.
-/
import Derived.Test.YtbkmlldhjchhjaaTt
import Derived.Test.YtbkmlldhjchhjaaTw
namespace Go.Proofs.Ytbkmlldhjchhjaa
open Go.ChangeShapes Go.WideShapes Go.ChangeAt Go.RowKit

theorem ext_three (s : ByteArray) : ((s.extract 0 3).toList == [239, 187, 191]) = (s.data.toList.take 3 == [239, 187, 191]) := by
  rw [ByteArray.toList_eq]
  simp [ByteArray.data_extract, List.extract]
theorem wrap_text (s : ByteArray) : ((⟨#[40]⟩ : ByteArray) ++ s ++ ⟨#[10, 41]⟩).data.toList = wrapT s.data.toList := by
  rw [ByteArray.data_append, Array.toList_append, ByteArray.data_append, Array.toList_append]; rfl
set_option maxRecDepth 100000 in
set_option maxHeartbeats 8000000 in
theorem wrapped_bad (s : ByteArray) (w : World) (hM : Mx w) (T : List (Nat × Nat × Nat)) (P : List Int) (m : Nat) (f g : Int) (hA : nestAns s.data.toList = (T, P, m, f, g)) (hf : f ≠ 0) :
    Calls Try.prog 15 #[.string s] w fun e w' => e = .returned (.bool true) ∧ Below w.heap.size w w' := by
  have hne := fun w => fault_neq f g w
  rw [decide_eq_false hf] at hne
  have hgd := fun u v w => fault_ngd u v #[.int .i64 f, .int .i64 g] #[.int .i64 0, .int .i64 0] w
  clear hf
  have hM0 := hM.lt
  have HM := Lib.hid hM
  clear hM
  have h1 := fun w hM => nof_any s w hM
  have h2 := fun w hM => depth_any s w hM
  rw [hA] at h1 h2
  clear hA
  have TOK1 := True.intro
  have TOK2 := True.intro
  go_enter Try.func15, Try.ntmps15
  go_wp2_with (first
    | (go_at_call 33; clear TOK1; refine (h1 _ HM.out).mono ?_; rintro e w1 ⟨⟨a, ca, b, cb, rfl, hT, hI, hl1, hl2⟩, hB1⟩; clear hT hI hl1 hl2)
    | (refine wpList_store_rowTo rfl 33 (.tmp 5) (.tmp 19) rfl rfl w1.heap.size #[.int .i64 f, .int .i64 g] rfl rfl 33 #[.int .i64 0, .int .i64 0] (heap_alloc_new w1 _) info33 rfl (by simp [Value.oneCell']) ?_; have hX1 := setRow_heap _ w1.heap.size _ #[.int .i64 f, .int .i64 g] _ _ (heap_alloc_new w1 (.cells #[.int .i64 0, .int .i64 0] 33)); have hY1 : Below w1.heap.size w1 _ := below_setRow ((Below.refl _ w1).alloc (Nat.le_refl _) (.cells #[.int .i64 0, .int .i64 0] 33)) (Nat.le_refl _) #[.int .i64 f, .int .i64 g]; have hz1 : w1.heap.size < ((w1.alloc (.cells #[.int .i64 0, .int .i64 0] 33)).setRow w1.heap.size #[.int .i64 f, .int .i64 g]).heap.size := (Array.getElem?_eq_some_iff.1 hX1).1; generalize (w1.alloc (.cells #[.int .i64 0, .int .i64 0] 33)).setRow w1.heap.size #[.int .i64 f, .int .i64 g] = W1 at hX1 hY1 hz1 ⊢; have a0 := cell_of_row _ _ 0 _ _ _ hX1; have a1 := cell_of_row _ _ 1 _ _ _ hX1; simp only [List.getElem?_toArray, List.getElem?_cons_zero, List.getElem?_cons_succ] at a0 a1; have hBw := hB1.trans (hY1.mono hB1.size); skip; clear hX1 hY1 hB1 hz1)
    | (go_at_call 35; clear TOK2; refine (h2 _ (HM.out.below hBw hM0)).mono ?_; rintro e w2 ⟨rfl, hB2⟩; replace a0 := (hB2.cell (p := ⟨_, _, none⟩) (cell_lt a0)).trans a0; replace a1 := (hB2.cell (p := ⟨_, _, none⟩) (cell_lt a1)).trans a1; skip; replace hBw := below_chain hBw hB2; clear hB2)
    | (refine wpList_store_rowTo rfl 33 (.tmp 7) (.tmp 24) rfl rfl w2.heap.size #[.int .i64 f, .int .i64 g] rfl rfl 33 #[.int .i64 0, .int .i64 0] (heap_alloc_new w2 _) info33 rfl (by simp [Value.oneCell']) ?_; have hX1 := setRow_heap _ w2.heap.size _ #[.int .i64 f, .int .i64 g] _ _ (heap_alloc_new w2 (.cells #[.int .i64 0, .int .i64 0] 33)); have hY1 : Below w2.heap.size w2 _ := below_setRow ((Below.refl _ w2).alloc (Nat.le_refl _) (.cells #[.int .i64 0, .int .i64 0] 33)) (Nat.le_refl _) #[.int .i64 f, .int .i64 g]; have hz1 : w2.heap.size < ((w2.alloc (.cells #[.int .i64 0, .int .i64 0] 33)).setRow w2.heap.size #[.int .i64 f, .int .i64 g]).heap.size := (Array.getElem?_eq_some_iff.1 hX1).1; generalize (w2.alloc (.cells #[.int .i64 0, .int .i64 0] 33)).setRow w2.heap.size #[.int .i64 f, .int .i64 g] = W2 at hX1 hY1 hz1 ⊢; replace a0 := (hY1.cell (p := ⟨_, _, none⟩) (cell_lt a0)).trans a0; replace a1 := (hY1.cell (p := ⟨_, _, none⟩) (cell_lt a1)).trans a1; skip; replace hBw := below_chain hBw hY1; clear hX1 hY1 hz1)
    | (go_at_call 34; refine (fixed9_any _ (HM.out.below hBw hM0)).mono ?_; rintro e w3 ⟨rfl, hB2⟩; replace a0 := (hB2.cell (p := ⟨_, _, none⟩) (cell_lt a0)).trans a0; replace a1 := (hB2.cell (p := ⟨_, _, none⟩) (cell_lt a1)).trans a1; skip; replace hBw := below_chain hBw hB2; clear hB2))
  all_goals first | (go_ret; exact ⟨rfl, hBw⟩) | skip
  trace_state
set_option maxRecDepth 100000 in
set_option maxHeartbeats 8000000 in
theorem wrapped_long (s : ByteArray) (w : World) (hM : Mx w) (T : List (Nat × Nat × Nat)) (P : List Int) (m : Nat) (f g : Int) (hA : nestAns s.data.toList = (T, P, m, f, g)) (hf : f = 0) (hg : g = 0) (hs : 65533 < s.size) :
    Calls Try.prog 15 #[.string s] w fun e w' => e = .returned (.bool true) ∧ Below w.heap.size w w' := by
  subst hf hg
  have hne := fun w => fault_neq 0 0 w
  rw [show (!(decide ((0 : Int) = 0) && decide ((0 : Int) = 0))) = false from rfl] at hne
  have hgd := fun u v w => fault_ngd u v #[.int .i64 0, .int .i64 0] #[.int .i64 0, .int .i64 0] w
  have hM0 := hM.lt
  have HM := Lib.hid hM
  clear hM
  have h1 := fun w hM => nof_any s w hM
  have h2 := fun w hM => depth_any s w hM
  rw [hA] at h1 h2
  clear hA
  have TOK1 := True.intro
  have TOK2 := True.intro
  go_enter Try.func15, Try.ntmps15
  go_wp2_with (first
    | (go_at_call 33; clear TOK1; refine (h1 _ HM.out).mono ?_; rintro e w1 ⟨⟨a, ca, b, cb, rfl, hT, hI, hl1, hl2⟩, hB1⟩; clear hT hI hl1 hl2)
    | (refine wpList_store_rowTo rfl 33 (.tmp 5) (.tmp 19) rfl rfl w1.heap.size #[.int .i64 0, .int .i64 0] rfl rfl 33 #[.int .i64 0, .int .i64 0] (heap_alloc_new w1 _) info33 rfl (by simp [Value.oneCell']) ?_; have hX1 := setRow_heap _ w1.heap.size _ #[.int .i64 0, .int .i64 0] _ _ (heap_alloc_new w1 (.cells #[.int .i64 0, .int .i64 0] 33)); have hY1 : Below w1.heap.size w1 _ := below_setRow ((Below.refl _ w1).alloc (Nat.le_refl _) (.cells #[.int .i64 0, .int .i64 0] 33)) (Nat.le_refl _) #[.int .i64 0, .int .i64 0]; have hz1 : w1.heap.size < ((w1.alloc (.cells #[.int .i64 0, .int .i64 0] 33)).setRow w1.heap.size #[.int .i64 0, .int .i64 0]).heap.size := (Array.getElem?_eq_some_iff.1 hX1).1; generalize (w1.alloc (.cells #[.int .i64 0, .int .i64 0] 33)).setRow w1.heap.size #[.int .i64 0, .int .i64 0] = W1 at hX1 hY1 hz1 ⊢; have a0 := cell_of_row _ _ 0 _ _ _ hX1; have a1 := cell_of_row _ _ 1 _ _ _ hX1; simp only [List.getElem?_toArray, List.getElem?_cons_zero, List.getElem?_cons_succ] at a0 a1; have hBw := hB1.trans (hY1.mono hB1.size); skip; clear hX1 hY1 hB1 hz1)
    | (go_at_call 35; clear TOK2; refine (h2 _ (HM.out.below hBw hM0)).mono ?_; rintro e w2 ⟨rfl, hB2⟩; replace a0 := (hB2.cell (p := ⟨_, _, none⟩) (cell_lt a0)).trans a0; replace a1 := (hB2.cell (p := ⟨_, _, none⟩) (cell_lt a1)).trans a1; skip; replace hBw := below_chain hBw hB2; clear hB2)
    | (refine wpList_store_rowTo rfl 33 (.tmp 7) (.tmp 24) rfl rfl w2.heap.size #[.int .i64 0, .int .i64 0] rfl rfl 33 #[.int .i64 0, .int .i64 0] (heap_alloc_new w2 _) info33 rfl (by simp [Value.oneCell']) ?_; have hX1 := setRow_heap _ w2.heap.size _ #[.int .i64 0, .int .i64 0] _ _ (heap_alloc_new w2 (.cells #[.int .i64 0, .int .i64 0] 33)); have hY1 : Below w2.heap.size w2 _ := below_setRow ((Below.refl _ w2).alloc (Nat.le_refl _) (.cells #[.int .i64 0, .int .i64 0] 33)) (Nat.le_refl _) #[.int .i64 0, .int .i64 0]; have hz1 : w2.heap.size < ((w2.alloc (.cells #[.int .i64 0, .int .i64 0] 33)).setRow w2.heap.size #[.int .i64 0, .int .i64 0]).heap.size := (Array.getElem?_eq_some_iff.1 hX1).1; generalize (w2.alloc (.cells #[.int .i64 0, .int .i64 0] 33)).setRow w2.heap.size #[.int .i64 0, .int .i64 0] = W2 at hX1 hY1 hz1 ⊢; replace a0 := (hY1.cell (p := ⟨_, _, none⟩) (cell_lt a0)).trans a0; replace a1 := (hY1.cell (p := ⟨_, _, none⟩) (cell_lt a1)).trans a1; skip; replace hBw := below_chain hBw hY1; clear hX1 hY1 hz1)
    | (go_at_call 34; refine (fixed9_any _ (HM.out.below hBw hM0)).mono ?_; rintro e w3 ⟨rfl, hB2⟩; replace a0 := (hB2.cell (p := ⟨_, _, none⟩) (cell_lt a0)).trans a0; replace a1 := (hB2.cell (p := ⟨_, _, none⟩) (cell_lt a1)).trans a1; skip; replace hBw := below_chain hBw hB2; clear hB2))
  all_goals first | (go_ret; exact ⟨rfl, hBw⟩) | skip
  trace_state
set_option maxRecDepth 100000 in
set_option maxHeartbeats 8000000 in
theorem wrapped_mark (s : ByteArray) (w : World) (hM : Mx w) (T : List (Nat × Nat × Nat)) (P : List Int) (m : Nat) (f g : Int) (hA : nestAns s.data.toList = (T, P, m, f, g)) (hf : f = 0) (hg : g = 0) (hs : s.size ≤ 65533) (hs2 : 2 < s.size) (hq : s.data.toList.take 3 = [239, 187, 191]) :
    Calls Try.prog 15 #[.string s] w fun e w' => e = .returned (.bool true) ∧ Below w.heap.size w w' := by
  subst hf hg
  have hq2 := ext_three s
  rw [hq, show (([239, 187, 191] : List UInt8) == [239, 187, 191]) = true from rfl] at hq2
  clear hq
  have hne := fun w => fault_neq 0 0 w
  rw [show (!(decide ((0 : Int) = 0) && decide ((0 : Int) = 0))) = false from rfl] at hne
  have hgd := fun u v w => fault_ngd u v #[.int .i64 0, .int .i64 0] #[.int .i64 0, .int .i64 0] w
  have hM0 := hM.lt
  have HM := Lib.hid hM
  clear hM
  have h1 := fun w hM => nof_any s w hM
  have h2 := fun w hM => depth_any s w hM
  rw [hA] at h1 h2
  clear hA
  have TOK1 := True.intro
  have TOK2 := True.intro
  go_enter Try.func15, Try.ntmps15
  go_wp2_with (first
    | (go_at_call 33; clear TOK1; refine (h1 _ HM.out).mono ?_; rintro e w1 ⟨⟨a, ca, b, cb, rfl, hT, hI, hl1, hl2⟩, hB1⟩; clear hT hI hl1 hl2)
    | (refine wpList_store_rowTo rfl 33 (.tmp 5) (.tmp 19) rfl rfl w1.heap.size #[.int .i64 0, .int .i64 0] rfl rfl 33 #[.int .i64 0, .int .i64 0] (heap_alloc_new w1 _) info33 rfl (by simp [Value.oneCell']) ?_; have hX1 := setRow_heap _ w1.heap.size _ #[.int .i64 0, .int .i64 0] _ _ (heap_alloc_new w1 (.cells #[.int .i64 0, .int .i64 0] 33)); have hY1 : Below w1.heap.size w1 _ := below_setRow ((Below.refl _ w1).alloc (Nat.le_refl _) (.cells #[.int .i64 0, .int .i64 0] 33)) (Nat.le_refl _) #[.int .i64 0, .int .i64 0]; have hz1 : w1.heap.size < ((w1.alloc (.cells #[.int .i64 0, .int .i64 0] 33)).setRow w1.heap.size #[.int .i64 0, .int .i64 0]).heap.size := (Array.getElem?_eq_some_iff.1 hX1).1; generalize (w1.alloc (.cells #[.int .i64 0, .int .i64 0] 33)).setRow w1.heap.size #[.int .i64 0, .int .i64 0] = W1 at hX1 hY1 hz1 ⊢; have a0 := cell_of_row _ _ 0 _ _ _ hX1; have a1 := cell_of_row _ _ 1 _ _ _ hX1; simp only [List.getElem?_toArray, List.getElem?_cons_zero, List.getElem?_cons_succ] at a0 a1; have hBw := hB1.trans (hY1.mono hB1.size); skip; clear hX1 hY1 hB1 hz1)
    | (go_at_call 35; clear TOK2; refine (h2 _ (HM.out.below hBw hM0)).mono ?_; rintro e w2 ⟨rfl, hB2⟩; replace a0 := (hB2.cell (p := ⟨_, _, none⟩) (cell_lt a0)).trans a0; replace a1 := (hB2.cell (p := ⟨_, _, none⟩) (cell_lt a1)).trans a1; skip; replace hBw := below_chain hBw hB2; clear hB2)
    | (refine wpList_store_rowTo rfl 33 (.tmp 7) (.tmp 24) rfl rfl w2.heap.size #[.int .i64 0, .int .i64 0] rfl rfl 33 #[.int .i64 0, .int .i64 0] (heap_alloc_new w2 _) info33 rfl (by simp [Value.oneCell']) ?_; have hX1 := setRow_heap _ w2.heap.size _ #[.int .i64 0, .int .i64 0] _ _ (heap_alloc_new w2 (.cells #[.int .i64 0, .int .i64 0] 33)); have hY1 : Below w2.heap.size w2 _ := below_setRow ((Below.refl _ w2).alloc (Nat.le_refl _) (.cells #[.int .i64 0, .int .i64 0] 33)) (Nat.le_refl _) #[.int .i64 0, .int .i64 0]; have hz1 : w2.heap.size < ((w2.alloc (.cells #[.int .i64 0, .int .i64 0] 33)).setRow w2.heap.size #[.int .i64 0, .int .i64 0]).heap.size := (Array.getElem?_eq_some_iff.1 hX1).1; generalize (w2.alloc (.cells #[.int .i64 0, .int .i64 0] 33)).setRow w2.heap.size #[.int .i64 0, .int .i64 0] = W2 at hX1 hY1 hz1 ⊢; replace a0 := (hY1.cell (p := ⟨_, _, none⟩) (cell_lt a0)).trans a0; replace a1 := (hY1.cell (p := ⟨_, _, none⟩) (cell_lt a1)).trans a1; skip; replace hBw := below_chain hBw hY1; clear hX1 hY1 hz1)
    | (go_at_call 34; refine (fixed9_any _ (HM.out.below hBw hM0)).mono ?_; rintro e w3 ⟨rfl, hB2⟩; replace a0 := (hB2.cell (p := ⟨_, _, none⟩) (cell_lt a0)).trans a0; replace a1 := (hB2.cell (p := ⟨_, _, none⟩) (cell_lt a1)).trans a1; skip; replace hBw := below_chain hBw hB2; clear hB2))
  all_goals first | (go_ret; exact ⟨rfl, hBw⟩) | skip
  trace_state
set_option maxRecDepth 100000 in
set_option maxHeartbeats 16000000 in
theorem wrapped_deep1 (s : ByteArray) (w : World) (hM : Mx w) (S : List (Nat × Nat × Nat)) (P : List Int) (m : Nat) (hA : nestAns s.data.toList = (S, P, m, 0, 0)) (hpl : P.length = S.length) (hsz : s.size ≤ 65533) (hs2 : 2 < s.size) (hq : s.data.toList.take 3 ≠ [239, 187, 191]) (hm : m = 100) (gg : Int) (hW : nestAns (wrapT s.data.toList) = ([], [], 0, 6, gg)) :
    Calls Try.prog 15 #[.string s] w fun e w' => e = .returned (.bool true) ∧ Below w.heap.size w w' := by
  have hM0 := hM.lt
  have HM := Lib.hid hM
  clear hM
  have h1 := fun w hM => nof_any s w hM
  have h2 := fun w hM => depth_any s w hM
  have h3 := fun w hM => nof_any (⟨#[40]⟩ ++ s ++ ⟨#[10, 41]⟩) w hM
  have h4 := fun w hM => depth_any (⟨#[40]⟩ ++ s ++ ⟨#[10, 41]⟩) w hM
  rw [hA] at h1 h2
  rw [wrap_text, hW] at h3 h4
  unfold OfOf at h1 h3
  dsimp only at h1 h2 h3 h4
  rw [hpl] at h1
  clear hA hpl hW
  have ha1 := fun w => run_string_add_sum (P := Try.prog) w ⟨#[40]⟩ s (by show 1 + _ ≤ _; omega)
  have ha2 := fun w => run_string_add_sum (P := Try.prog) w (⟨#[40]⟩ ++ s) ⟨#[10, 41]⟩ (by rw [ByteArray.size_append]; show 1 + _ + 2 ≤ _; omega)
  have hq2 := ext_three s
  rw [show (s.data.toList.take 3 == [239, 187, 191]) = false by simpa using hq] at hq2
  clear hq
  have hne := fun w => fault_neq 0 0 w
  rw [show (!(decide ((0 : Int) = 0) && decide ((0 : Int) = 0))) = false from rfl] at hne
  have hgd := fun u v w => fault_ngd u v #[.int .i64 0, .int .i64 0] #[.int .i64 0, .int .i64 0] w
  have hm1 : ((m : Int) == 100) = true := by simp; omega
  have TOK1 := True.intro
  have TOK2 := True.intro
  have TOK3 := True.intro
  go_enter Try.func15, Try.ntmps15
  go_wp2_with (first
    | (go_at_call 33; clear TOK1; refine (h1 _ HM.out).mono ?_; rintro e w1 ⟨⟨a, ca, b, cb, rfl, hT, hI, hl1, hl2⟩, hB1⟩; have HT := Lib.hid hT; have HI := Lib.hid hI; clear hT hI hl2)
    | (refine wpList_store_rowTo rfl 33 (.tmp 5) (.tmp 19) rfl rfl w1.heap.size #[.int .i64 0, .int .i64 0] rfl rfl 33 #[.int .i64 0, .int .i64 0] (heap_alloc_new w1 _) info33 rfl (by simp [Value.oneCell']) ?_; have hX1 := setRow_heap _ w1.heap.size _ #[.int .i64 0, .int .i64 0] _ _ (heap_alloc_new w1 (.cells #[.int .i64 0, .int .i64 0] 33)); have hY1 : Below w1.heap.size w1 _ := below_setRow ((Below.refl _ w1).alloc (Nat.le_refl _) (.cells #[.int .i64 0, .int .i64 0] 33)) (Nat.le_refl _) #[.int .i64 0, .int .i64 0]; have hz1 : w1.heap.size < ((w1.alloc (.cells #[.int .i64 0, .int .i64 0] 33)).setRow w1.heap.size #[.int .i64 0, .int .i64 0]).heap.size := (Array.getElem?_eq_some_iff.1 hX1).1; generalize (w1.alloc (.cells #[.int .i64 0, .int .i64 0] 33)).setRow w1.heap.size #[.int .i64 0, .int .i64 0] = W1 at hX1 hY1 hz1 ⊢; have a0 := cell_of_row _ _ 0 _ _ _ hX1; have a1 := cell_of_row _ _ 1 _ _ _ hX1; simp only [List.getElem?_toArray, List.getElem?_cons_zero, List.getElem?_cons_succ] at a0 a1; have hBw := hB1.trans (hY1.mono hB1.size); replace HT := Lib.hid (HT.out.below hY1); replace HI := Lib.hid (HI.out.below hY1); clear hX1 hY1 hB1 hz1)
    | (go_at_call 35; clear TOK2; refine (h2 _ (HM.out.below hBw hM0)).mono ?_; rintro e w2 ⟨rfl, hB2⟩; replace a0 := (hB2.cell (p := ⟨_, _, none⟩) (cell_lt a0)).trans a0; replace a1 := (hB2.cell (p := ⟨_, _, none⟩) (cell_lt a1)).trans a1; replace HT := Lib.hid (HT.out.below hB2); replace HI := Lib.hid (HI.out.below hB2); replace hBw := below_chain hBw hB2; clear hB2)
    | (refine wpList_store_rowTo rfl 33 (.tmp 7) (.tmp 24) rfl rfl w2.heap.size #[.int .i64 0, .int .i64 0] rfl rfl 33 #[.int .i64 0, .int .i64 0] (heap_alloc_new w2 _) info33 rfl (by simp [Value.oneCell']) ?_; have hX1 := setRow_heap _ w2.heap.size _ #[.int .i64 0, .int .i64 0] _ _ (heap_alloc_new w2 (.cells #[.int .i64 0, .int .i64 0] 33)); have hY1 : Below w2.heap.size w2 _ := below_setRow ((Below.refl _ w2).alloc (Nat.le_refl _) (.cells #[.int .i64 0, .int .i64 0] 33)) (Nat.le_refl _) #[.int .i64 0, .int .i64 0]; have hz1 : w2.heap.size < ((w2.alloc (.cells #[.int .i64 0, .int .i64 0] 33)).setRow w2.heap.size #[.int .i64 0, .int .i64 0]).heap.size := (Array.getElem?_eq_some_iff.1 hX1).1; generalize (w2.alloc (.cells #[.int .i64 0, .int .i64 0] 33)).setRow w2.heap.size #[.int .i64 0, .int .i64 0] = W2 at hX1 hY1 hz1 ⊢; replace a0 := (hY1.cell (p := ⟨_, _, none⟩) (cell_lt a0)).trans a0; replace a1 := (hY1.cell (p := ⟨_, _, none⟩) (cell_lt a1)).trans a1; replace HT := Lib.hid (HT.out.below hY1); replace HI := Lib.hid (HI.out.below hY1); replace hBw := below_chain hBw hY1; clear hX1 hY1 hz1)
    | (go_at_call 34; refine (fixed9_any _ (HM.out.below hBw hM0)).mono ?_; rintro e w3 ⟨rfl, hB2⟩; replace a0 := (hB2.cell (p := ⟨_, _, none⟩) (cell_lt a0)).trans a0; replace a1 := (hB2.cell (p := ⟨_, _, none⟩) (cell_lt a1)).trans a1; replace HT := Lib.hid (HT.out.below hB2); replace HI := Lib.hid (HI.out.below hB2); replace hBw := below_chain hBw hB2; clear hB2)
    | (go_at_call 33; clear TOK3; refine (h3 _ (HM.out.below hBw hM0)).mono ?_; rintro e w4 ⟨⟨a2, ca2, b2, cb2, rfl, hT2, hI2, hl3, hl4⟩, hB2⟩; clear a0 a1; replace HT := Lib.hid (HT.out.below hB2); replace HI := Lib.hid (HI.out.below hB2); replace hBw := below_chain hBw hB2; have HT2 := Lib.hid hT2; have HI2 := Lib.hid hI2; clear hT2 hI2 hl4 hB2)
    | (refine wpList_store_rowTo rfl 33 (.tmp 10) (.tmp 55) rfl rfl w4.heap.size #[.int .i64 6, .int .i64 gg] rfl rfl 33 #[.int .i64 0, .int .i64 0] (heap_alloc_new w4 _) info33 rfl (by simp [Value.oneCell']) ?_; have hX1 := setRow_heap _ w4.heap.size _ #[.int .i64 6, .int .i64 gg] _ _ (heap_alloc_new w4 (.cells #[.int .i64 0, .int .i64 0] 33)); have hY1 : Below w4.heap.size w4 _ := below_setRow ((Below.refl _ w4).alloc (Nat.le_refl _) (.cells #[.int .i64 0, .int .i64 0] 33)) (Nat.le_refl _) #[.int .i64 6, .int .i64 gg]; have hz1 : w4.heap.size < ((w4.alloc (.cells #[.int .i64 0, .int .i64 0] 33)).setRow w4.heap.size #[.int .i64 6, .int .i64 gg]).heap.size := (Array.getElem?_eq_some_iff.1 hX1).1; generalize (w4.alloc (.cells #[.int .i64 0, .int .i64 0] 33)).setRow w4.heap.size #[.int .i64 6, .int .i64 gg] = W4 at hX1 hY1 hz1 ⊢; have c0 := cell_of_row _ _ 0 _ _ _ hX1; have c1 := cell_of_row _ _ 1 _ _ _ hX1; simp only [List.getElem?_toArray, List.getElem?_cons_zero, List.getElem?_cons_succ] at c0 c1; replace HT := Lib.hid (HT.out.below hY1); replace HI := Lib.hid (HI.out.below hY1); replace HT2 := Lib.hid (HT2.out.below hY1); replace HI2 := Lib.hid (HI2.out.below hY1); replace hBw := below_chain hBw hY1; clear hX1 hY1 hz1))
  go_ret
  exact ⟨rfl, hBw⟩
set_option maxRecDepth 100000 in
set_option maxHeartbeats 16000000 in
theorem wrapped_good1 (s : ByteArray) (w : World) (hM : Mx w) (S : List (Nat × Nat × Nat)) (P : List Int) (m : Nat) (hA : nestAns s.data.toList = (S, P, m, 0, 0)) (hpl : P.length = S.length) (hsz : s.size ≤ 65533) (hs2 : 2 < s.size) (hq : s.data.toList.take 3 ≠ [239, 187, 191]) (hm : m ≤ 99) (Q : List (Nat × Nat × Nat)) (P' : List Int) (hW : nestAns (wrapT s.data.toList) = (Q, P', m + 1, 0, 0)) (hQl : Q.length = S.length + 3) (hPl : P'.length = S.length + 3) (hk : ∀ j x, S[j]? = some x → ∃ y, Q[j + 1]? = some y ∧ y.1 = x.1) (hp : ∀ j : Nat, j < S.length → ∃ v, P[j]? = some v ∧ P'[j + 1]? = some (sh v)) (hp0 : P'[0]? = some ((S.length + 1 : Nat) : Int)) (hIv : Inv S.length S.length [] P) :
    Calls Try.prog 15 #[.string s] w fun e w' => e = .returned (.bool true) ∧ Below w.heap.size w w' := by
  have hM0 := hM.lt
  have HM := Lib.hid hM
  clear hM
  have h1 := fun w hM => nof_any s w hM
  have h2 := fun w hM => depth_any s w hM
  have h3 := fun w hM => nof_any (⟨#[40]⟩ ++ s ++ ⟨#[10, 41]⟩) w hM
  have h4 := fun w hM => depth_any (⟨#[40]⟩ ++ s ++ ⟨#[10, 41]⟩) w hM
  rw [hA] at h1 h2
  rw [wrap_text, hW] at h3 h4
  unfold OfOf at h1 h3
  dsimp only at h1 h2 h3 h4
  rw [hpl] at h1
  rw [hQl, hPl] at h3
  obtain ⟨n, hn⟩ : ∃ n, n = S.length := ⟨_, rfl⟩
  rw [← hn] at h1 h3 hpl hp hp0 hIv
  have HK := Lib.hid hk
  have HP := Lib.hid hp
  have HP0 := Lib.hid hp0
  have HN := Lib.hid hn
  have HIV := Lib.hid hIv
  clear hk hp hp0 hn hQl hPl hIv
  clear hA hpl hW
  have ha1 := fun w => run_string_add_sum (P := Try.prog) w ⟨#[40]⟩ s (by show 1 + _ ≤ _; omega)
  have ha2 := fun w => run_string_add_sum (P := Try.prog) w (⟨#[40]⟩ ++ s) ⟨#[10, 41]⟩ (by rw [ByteArray.size_append]; show 1 + _ + 2 ≤ _; omega)
  have hq2 := ext_three s
  rw [show (s.data.toList.take 3 == [239, 187, 191]) = false by simpa using hq] at hq2
  clear hq
  have hne := fun w => fault_neq 0 0 w
  rw [show (!(decide ((0 : Int) = 0) && decide ((0 : Int) = 0))) = false from rfl] at hne
  have hgd := fun u v w => fault_ngd u v #[.int .i64 0, .int .i64 0] #[.int .i64 0, .int .i64 0] w
  have hm1 : ((m : Int) == 100) = false := by simp; omega
  have TOK1 := True.intro
  have TOK2 := True.intro
  have TOK3 := True.intro
  go_enter Try.func15, Try.ntmps15
  go_wp2_with (first
    | (go_at_call 33; clear TOK1; refine (h1 _ HM.out).mono ?_; rintro e w1 ⟨⟨a, ca, b, cb, rfl, hT, hI, hl1, hl2⟩, hB1⟩; have HT := Lib.hid hT; have HI := Lib.hid hI; clear hT hI hl2)
    | (refine wpList_store_rowTo rfl 33 (.tmp 5) (.tmp 19) rfl rfl w1.heap.size #[.int .i64 0, .int .i64 0] rfl rfl 33 #[.int .i64 0, .int .i64 0] (heap_alloc_new w1 _) info33 rfl (by simp [Value.oneCell']) ?_; have hX1 := setRow_heap _ w1.heap.size _ #[.int .i64 0, .int .i64 0] _ _ (heap_alloc_new w1 (.cells #[.int .i64 0, .int .i64 0] 33)); have hY1 : Below w1.heap.size w1 _ := below_setRow ((Below.refl _ w1).alloc (Nat.le_refl _) (.cells #[.int .i64 0, .int .i64 0] 33)) (Nat.le_refl _) #[.int .i64 0, .int .i64 0]; have hz1 : w1.heap.size < ((w1.alloc (.cells #[.int .i64 0, .int .i64 0] 33)).setRow w1.heap.size #[.int .i64 0, .int .i64 0]).heap.size := (Array.getElem?_eq_some_iff.1 hX1).1; generalize (w1.alloc (.cells #[.int .i64 0, .int .i64 0] 33)).setRow w1.heap.size #[.int .i64 0, .int .i64 0] = W1 at hX1 hY1 hz1 ⊢; have a0 := cell_of_row _ _ 0 _ _ _ hX1; have a1 := cell_of_row _ _ 1 _ _ _ hX1; simp only [List.getElem?_toArray, List.getElem?_cons_zero, List.getElem?_cons_succ] at a0 a1; have hBw := hB1.trans (hY1.mono hB1.size); replace HT := Lib.hid (HT.out.below hY1); replace HI := Lib.hid (HI.out.below hY1); clear hX1 hY1 hB1 hz1)
    | (go_at_call 35; clear TOK2; refine (h2 _ (HM.out.below hBw hM0)).mono ?_; rintro e w2 ⟨rfl, hB2⟩; replace a0 := (hB2.cell (p := ⟨_, _, none⟩) (cell_lt a0)).trans a0; replace a1 := (hB2.cell (p := ⟨_, _, none⟩) (cell_lt a1)).trans a1; replace HT := Lib.hid (HT.out.below hB2); replace HI := Lib.hid (HI.out.below hB2); replace hBw := below_chain hBw hB2; clear hB2)
    | (refine wpList_store_rowTo rfl 33 (.tmp 7) (.tmp 24) rfl rfl w2.heap.size #[.int .i64 0, .int .i64 0] rfl rfl 33 #[.int .i64 0, .int .i64 0] (heap_alloc_new w2 _) info33 rfl (by simp [Value.oneCell']) ?_; have hX1 := setRow_heap _ w2.heap.size _ #[.int .i64 0, .int .i64 0] _ _ (heap_alloc_new w2 (.cells #[.int .i64 0, .int .i64 0] 33)); have hY1 : Below w2.heap.size w2 _ := below_setRow ((Below.refl _ w2).alloc (Nat.le_refl _) (.cells #[.int .i64 0, .int .i64 0] 33)) (Nat.le_refl _) #[.int .i64 0, .int .i64 0]; have hz1 : w2.heap.size < ((w2.alloc (.cells #[.int .i64 0, .int .i64 0] 33)).setRow w2.heap.size #[.int .i64 0, .int .i64 0]).heap.size := (Array.getElem?_eq_some_iff.1 hX1).1; generalize (w2.alloc (.cells #[.int .i64 0, .int .i64 0] 33)).setRow w2.heap.size #[.int .i64 0, .int .i64 0] = W2 at hX1 hY1 hz1 ⊢; replace a0 := (hY1.cell (p := ⟨_, _, none⟩) (cell_lt a0)).trans a0; replace a1 := (hY1.cell (p := ⟨_, _, none⟩) (cell_lt a1)).trans a1; replace HT := Lib.hid (HT.out.below hY1); replace HI := Lib.hid (HI.out.below hY1); replace hBw := below_chain hBw hY1; clear hX1 hY1 hz1)
    | (go_at_call 34; refine (fixed9_any _ (HM.out.below hBw hM0)).mono ?_; rintro e w3 ⟨rfl, hB2⟩; replace a0 := (hB2.cell (p := ⟨_, _, none⟩) (cell_lt a0)).trans a0; replace a1 := (hB2.cell (p := ⟨_, _, none⟩) (cell_lt a1)).trans a1; replace HT := Lib.hid (HT.out.below hB2); replace HI := Lib.hid (HI.out.below hB2); replace hBw := below_chain hBw hB2; clear hB2)
    | (go_at_call 33; clear TOK3; refine (h3 _ (HM.out.below hBw hM0)).mono ?_; rintro e w4 ⟨⟨a2, ca2, b2, cb2, rfl, hT2, hI2, hl3, hl4⟩, hB2⟩; clear a0 a1; replace HT := Lib.hid (HT.out.below hB2); replace HI := Lib.hid (HI.out.below hB2); replace hBw := below_chain hBw hB2; have HT2 := Lib.hid hT2; have HI2 := Lib.hid hI2; clear hT2 hI2 hl4 hB2)
    | (refine wpList_store_rowTo rfl 33 (.tmp 10) (.tmp 55) rfl rfl w4.heap.size #[.int .i64 0, .int .i64 0] rfl rfl 33 #[.int .i64 0, .int .i64 0] (heap_alloc_new w4 _) info33 rfl (by simp [Value.oneCell']) ?_; have hX1 := setRow_heap _ w4.heap.size _ #[.int .i64 0, .int .i64 0] _ _ (heap_alloc_new w4 (.cells #[.int .i64 0, .int .i64 0] 33)); have hY1 : Below w4.heap.size w4 _ := below_setRow ((Below.refl _ w4).alloc (Nat.le_refl _) (.cells #[.int .i64 0, .int .i64 0] 33)) (Nat.le_refl _) #[.int .i64 0, .int .i64 0]; have hz1 : w4.heap.size < ((w4.alloc (.cells #[.int .i64 0, .int .i64 0] 33)).setRow w4.heap.size #[.int .i64 0, .int .i64 0]).heap.size := (Array.getElem?_eq_some_iff.1 hX1).1; generalize (w4.alloc (.cells #[.int .i64 0, .int .i64 0] 33)).setRow w4.heap.size #[.int .i64 0, .int .i64 0] = W4 at hX1 hY1 hz1 ⊢; have c0 := cell_of_row _ _ 0 _ _ _ hX1; have c1 := cell_of_row _ _ 1 _ _ _ hX1; simp only [List.getElem?_toArray, List.getElem?_cons_zero, List.getElem?_cons_succ] at c0 c1; replace HT := Lib.hid (HT.out.below hY1); replace HI := Lib.hid (HI.out.below hY1); replace HT2 := Lib.hid (HT2.out.below hY1); replace HI2 := Lib.hid (HI2.out.below hY1); replace hBw := below_chain hBw hY1; clear hX1 hY1 hz1)
    | (go_at_call 35; refine (h4 _ (HM.out.below hBw hM0)).mono ?_; rintro e w5 ⟨rfl, hB2⟩; replace c0 := (hB2.cell (p := ⟨_, _, none⟩) (cell_lt c0)).trans c0; replace c1 := (hB2.cell (p := ⟨_, _, none⟩) (cell_lt c1)).trans c1; replace HT := Lib.hid (HT.out.below hB2); replace HI := Lib.hid (HI.out.below hB2); replace HT2 := Lib.hid (HT2.out.below hB2); replace HI2 := Lib.hid (HI2.out.below hB2); replace hBw := below_chain hBw hB2; clear hB2)
    | (refine wpList_store_rowTo rfl 33 (.tmp 12) (.tmp 72) rfl rfl w5.heap.size #[.int .i64 0, .int .i64 0] rfl rfl 33 #[.int .i64 0, .int .i64 0] (heap_alloc_new w5 _) info33 rfl (by simp [Value.oneCell']) ?_; have hX1 := setRow_heap _ w5.heap.size _ #[.int .i64 0, .int .i64 0] _ _ (heap_alloc_new w5 (.cells #[.int .i64 0, .int .i64 0] 33)); have hY1 : Below w5.heap.size w5 _ := below_setRow ((Below.refl _ w5).alloc (Nat.le_refl _) (.cells #[.int .i64 0, .int .i64 0] 33)) (Nat.le_refl _) #[.int .i64 0, .int .i64 0]; have hz1 : w5.heap.size < ((w5.alloc (.cells #[.int .i64 0, .int .i64 0] 33)).setRow w5.heap.size #[.int .i64 0, .int .i64 0]).heap.size := (Array.getElem?_eq_some_iff.1 hX1).1; generalize (w5.alloc (.cells #[.int .i64 0, .int .i64 0] 33)).setRow w5.heap.size #[.int .i64 0, .int .i64 0] = W5 at hX1 hY1 hz1 ⊢; have d0 := cell_of_row _ _ 0 _ _ _ hX1; have d1 := cell_of_row _ _ 1 _ _ _ hX1; simp only [List.getElem?_toArray, List.getElem?_cons_zero, List.getElem?_cons_succ] at d0 d1; replace c0 := (hY1.cell (p := ⟨_, _, none⟩) (cell_lt c0)).trans c0; replace c1 := (hY1.cell (p := ⟨_, _, none⟩) (cell_lt c1)).trans c1; replace HT := Lib.hid (HT.out.below hY1); replace HI := Lib.hid (HI.out.below hY1); replace HT2 := Lib.hid (HT2.out.below hY1); replace HI2 := Lib.hid (HI2.out.below hY1); replace hBw := below_chain hBw hY1; obtain ⟨gq, rfl, e0⟩ := HI2.out 0 _ HP0.out; clear hX1 hY1 hz1))
  clear h1 h2 h3 h4 c0 c1 d0 d1 e0 ha1 ha2 hne hgd HP0
  have HBW := Lib.hid hBw
  clear hBw
  go_loopw [13] (fun kv wr => ∃ (i : Nat), i ≤ n ∧ kv = .int .i64 i ∧ Hid (Below w.heap.size w wr) ∧ Hid (Toks wr a S) ∧ Hid (Toks wr a2 Q) ∧ Hid (Ints wr b P) ∧ Hid (Ints wr (some ⟨gq, 0, none⟩) P')) (fun kv _ => n - (intOf kv).toNat)
  case atStart => exact ⟨0, by omega, rfl, HBW, HT, HT2, HI, HI2⟩
  case round =>
    clear HBW HT HT2 HI HI2
    obtain ⟨i, hi, rfl, HBW, HT, HT2, HI, HI2⟩ := hrel
    by_cases hlt : i < n
    · have j1 : (i : Int) < n := by omega
      have j0 : (0 : Int) ≤ i := by omega
      obtain ⟨⟨K, p1, z1⟩, hx⟩ : ∃ x, S[i]? = some x := ⟨S[i]'(by rw [← HN.out]; exact hlt), List.getElem?_eq_getElem (by rw [← HN.out]; exact hlt)⟩
      obtain ⟨⟨K2, p2, z2⟩, hy, hKK⟩ := HK.out i _ hx
      have hKK : K2 = K := hKK
      subst hKK
      obtain ⟨v, hv, hv2⟩ := HP.out i hlt
      obtain ⟨v', hv', hcase⟩ := HIV.out.each i hlt
      have hvv : v' = v := by rw [hv] at hv'; injection hv' with hv'; exact hv'.symm
      subst hvv
      obtain ⟨g1, rfl, t0, _, _⟩ := HT.out i _ hx
      obtain ⟨g2, rfl, u0, _, _⟩ := HT2.out (i + 1) _ hy
      obtain ⟨g3, rfl, e0⟩ := HI.out i _ hv
      obtain ⟨g4, hg4, f0⟩ := HI2.out (i + 1) _ hv2
      have hg4 : gq = g4 := by injection hg4 with hg4; injection hg4
      subst hg4
      clear hx hy hv hv2 hv'
      have kk : ((K2 : Int) != K2) = false := by simp
      by_cases hv1 : v' = -1
      · subst hv1
        rw [show sh (-1) = -1 from rfl] at f0
        clear hcase
        go_wp2
        go_quiet (fail)
        go_wp2
        go_roundw
        case rel => exact ⟨i + 1, by omega, by go_num, Lib.hid (below_drewN HBW.out _), HT, HT2, HI, HI2⟩
        case measure => simp [intOf]; omega
      · rw [show sh v' = v' + 1 by unfold sh; rw [if_neg hv1]] at f0
        have k1 : (v' == -1) = false := by simpa using hv1
        have k2 : (v' != -1) = true := by simpa using hv1
        have k3 : ((v' + 1) != (v' + 1)) = false := by simp
        obtain ⟨b1, b2⟩ : 0 ≤ v' ∧ v' < n := by
          rcases hcase with h | ⟨q, h, h', _⟩
          · exact absurd h hv1
          · omega
        clear hcase hv1
        go_wp2
        go_quiet (fail)
        go_wp2
        go_roundw
        case rel => exact ⟨i + 1, by omega, by go_num, Lib.hid (below_drewN HBW.out _), HT, HT2, HI, HI2⟩
        case measure => simp [intOf]; omega
    · obtain rfl : i = n := by omega
      go_wp2
      go_ret
      exact ⟨rfl, HBW.out⟩
set_option maxRecDepth 100000 in
set_option maxHeartbeats 16000000 in
theorem wrapped_deep2 (s : ByteArray) (w : World) (hM : Mx w) (S : List (Nat × Nat × Nat)) (P : List Int) (m : Nat) (hA : nestAns s.data.toList = (S, P, m, 0, 0)) (hpl : P.length = S.length) (hsz : s.size ≤ 65533) (hs2 : s.size ≤ 2) (hm : m = 100) (gg : Int) (hW : nestAns (wrapT s.data.toList) = ([], [], 0, 6, gg)) :
    Calls Try.prog 15 #[.string s] w fun e w' => e = .returned (.bool true) ∧ Below w.heap.size w w' := by
  have hM0 := hM.lt
  have HM := Lib.hid hM
  clear hM
  have h1 := fun w hM => nof_any s w hM
  have h2 := fun w hM => depth_any s w hM
  have h3 := fun w hM => nof_any (⟨#[40]⟩ ++ s ++ ⟨#[10, 41]⟩) w hM
  have h4 := fun w hM => depth_any (⟨#[40]⟩ ++ s ++ ⟨#[10, 41]⟩) w hM
  rw [hA] at h1 h2
  rw [wrap_text, hW] at h3 h4
  unfold OfOf at h1 h3
  dsimp only at h1 h2 h3 h4
  rw [hpl] at h1
  clear hA hpl hW
  have ha1 := fun w => run_string_add_sum (P := Try.prog) w ⟨#[40]⟩ s (by show 1 + _ ≤ _; omega)
  have ha2 := fun w => run_string_add_sum (P := Try.prog) w (⟨#[40]⟩ ++ s) ⟨#[10, 41]⟩ (by rw [ByteArray.size_append]; show 1 + _ + 2 ≤ _; omega)
  have hne := fun w => fault_neq 0 0 w
  rw [show (!(decide ((0 : Int) = 0) && decide ((0 : Int) = 0))) = false from rfl] at hne
  have hgd := fun u v w => fault_ngd u v #[.int .i64 0, .int .i64 0] #[.int .i64 0, .int .i64 0] w
  have hm1 : ((m : Int) == 100) = true := by simp; omega
  have TOK1 := True.intro
  have TOK2 := True.intro
  have TOK3 := True.intro
  go_enter Try.func15, Try.ntmps15
  go_wp2_with (first
    | (go_at_call 33; clear TOK1; refine (h1 _ HM.out).mono ?_; rintro e w1 ⟨⟨a, ca, b, cb, rfl, hT, hI, hl1, hl2⟩, hB1⟩; have HT := Lib.hid hT; have HI := Lib.hid hI; clear hT hI hl2)
    | (refine wpList_store_rowTo rfl 33 (.tmp 5) (.tmp 19) rfl rfl w1.heap.size #[.int .i64 0, .int .i64 0] rfl rfl 33 #[.int .i64 0, .int .i64 0] (heap_alloc_new w1 _) info33 rfl (by simp [Value.oneCell']) ?_; have hX1 := setRow_heap _ w1.heap.size _ #[.int .i64 0, .int .i64 0] _ _ (heap_alloc_new w1 (.cells #[.int .i64 0, .int .i64 0] 33)); have hY1 : Below w1.heap.size w1 _ := below_setRow ((Below.refl _ w1).alloc (Nat.le_refl _) (.cells #[.int .i64 0, .int .i64 0] 33)) (Nat.le_refl _) #[.int .i64 0, .int .i64 0]; have hz1 : w1.heap.size < ((w1.alloc (.cells #[.int .i64 0, .int .i64 0] 33)).setRow w1.heap.size #[.int .i64 0, .int .i64 0]).heap.size := (Array.getElem?_eq_some_iff.1 hX1).1; generalize (w1.alloc (.cells #[.int .i64 0, .int .i64 0] 33)).setRow w1.heap.size #[.int .i64 0, .int .i64 0] = W1 at hX1 hY1 hz1 ⊢; have a0 := cell_of_row _ _ 0 _ _ _ hX1; have a1 := cell_of_row _ _ 1 _ _ _ hX1; simp only [List.getElem?_toArray, List.getElem?_cons_zero, List.getElem?_cons_succ] at a0 a1; have hBw := hB1.trans (hY1.mono hB1.size); replace HT := Lib.hid (HT.out.below hY1); replace HI := Lib.hid (HI.out.below hY1); clear hX1 hY1 hB1 hz1)
    | (go_at_call 35; clear TOK2; refine (h2 _ (HM.out.below hBw hM0)).mono ?_; rintro e w2 ⟨rfl, hB2⟩; replace a0 := (hB2.cell (p := ⟨_, _, none⟩) (cell_lt a0)).trans a0; replace a1 := (hB2.cell (p := ⟨_, _, none⟩) (cell_lt a1)).trans a1; replace HT := Lib.hid (HT.out.below hB2); replace HI := Lib.hid (HI.out.below hB2); replace hBw := below_chain hBw hB2; clear hB2)
    | (refine wpList_store_rowTo rfl 33 (.tmp 7) (.tmp 24) rfl rfl w2.heap.size #[.int .i64 0, .int .i64 0] rfl rfl 33 #[.int .i64 0, .int .i64 0] (heap_alloc_new w2 _) info33 rfl (by simp [Value.oneCell']) ?_; have hX1 := setRow_heap _ w2.heap.size _ #[.int .i64 0, .int .i64 0] _ _ (heap_alloc_new w2 (.cells #[.int .i64 0, .int .i64 0] 33)); have hY1 : Below w2.heap.size w2 _ := below_setRow ((Below.refl _ w2).alloc (Nat.le_refl _) (.cells #[.int .i64 0, .int .i64 0] 33)) (Nat.le_refl _) #[.int .i64 0, .int .i64 0]; have hz1 : w2.heap.size < ((w2.alloc (.cells #[.int .i64 0, .int .i64 0] 33)).setRow w2.heap.size #[.int .i64 0, .int .i64 0]).heap.size := (Array.getElem?_eq_some_iff.1 hX1).1; generalize (w2.alloc (.cells #[.int .i64 0, .int .i64 0] 33)).setRow w2.heap.size #[.int .i64 0, .int .i64 0] = W2 at hX1 hY1 hz1 ⊢; replace a0 := (hY1.cell (p := ⟨_, _, none⟩) (cell_lt a0)).trans a0; replace a1 := (hY1.cell (p := ⟨_, _, none⟩) (cell_lt a1)).trans a1; replace HT := Lib.hid (HT.out.below hY1); replace HI := Lib.hid (HI.out.below hY1); replace hBw := below_chain hBw hY1; clear hX1 hY1 hz1)
    | (go_at_call 34; refine (fixed9_any _ (HM.out.below hBw hM0)).mono ?_; rintro e w3 ⟨rfl, hB2⟩; replace a0 := (hB2.cell (p := ⟨_, _, none⟩) (cell_lt a0)).trans a0; replace a1 := (hB2.cell (p := ⟨_, _, none⟩) (cell_lt a1)).trans a1; replace HT := Lib.hid (HT.out.below hB2); replace HI := Lib.hid (HI.out.below hB2); replace hBw := below_chain hBw hB2; clear hB2)
    | (go_at_call 33; clear TOK3; refine (h3 _ (HM.out.below hBw hM0)).mono ?_; rintro e w4 ⟨⟨a2, ca2, b2, cb2, rfl, hT2, hI2, hl3, hl4⟩, hB2⟩; clear a0 a1; replace HT := Lib.hid (HT.out.below hB2); replace HI := Lib.hid (HI.out.below hB2); replace hBw := below_chain hBw hB2; have HT2 := Lib.hid hT2; have HI2 := Lib.hid hI2; clear hT2 hI2 hl4 hB2)
    | (refine wpList_store_rowTo rfl 33 (.tmp 10) (.tmp 55) rfl rfl w4.heap.size #[.int .i64 6, .int .i64 gg] rfl rfl 33 #[.int .i64 0, .int .i64 0] (heap_alloc_new w4 _) info33 rfl (by simp [Value.oneCell']) ?_; have hX1 := setRow_heap _ w4.heap.size _ #[.int .i64 6, .int .i64 gg] _ _ (heap_alloc_new w4 (.cells #[.int .i64 0, .int .i64 0] 33)); have hY1 : Below w4.heap.size w4 _ := below_setRow ((Below.refl _ w4).alloc (Nat.le_refl _) (.cells #[.int .i64 0, .int .i64 0] 33)) (Nat.le_refl _) #[.int .i64 6, .int .i64 gg]; have hz1 : w4.heap.size < ((w4.alloc (.cells #[.int .i64 0, .int .i64 0] 33)).setRow w4.heap.size #[.int .i64 6, .int .i64 gg]).heap.size := (Array.getElem?_eq_some_iff.1 hX1).1; generalize (w4.alloc (.cells #[.int .i64 0, .int .i64 0] 33)).setRow w4.heap.size #[.int .i64 6, .int .i64 gg] = W4 at hX1 hY1 hz1 ⊢; have c0 := cell_of_row _ _ 0 _ _ _ hX1; have c1 := cell_of_row _ _ 1 _ _ _ hX1; simp only [List.getElem?_toArray, List.getElem?_cons_zero, List.getElem?_cons_succ] at c0 c1; replace HT := Lib.hid (HT.out.below hY1); replace HI := Lib.hid (HI.out.below hY1); replace HT2 := Lib.hid (HT2.out.below hY1); replace HI2 := Lib.hid (HI2.out.below hY1); replace hBw := below_chain hBw hY1; clear hX1 hY1 hz1))
  go_ret
  exact ⟨rfl, hBw⟩
set_option maxRecDepth 100000 in
set_option maxHeartbeats 16000000 in
theorem wrapped_good2 (s : ByteArray) (w : World) (hM : Mx w) (S : List (Nat × Nat × Nat)) (P : List Int) (m : Nat) (hA : nestAns s.data.toList = (S, P, m, 0, 0)) (hpl : P.length = S.length) (hsz : s.size ≤ 65533) (hs2 : s.size ≤ 2) (hm : m ≤ 99) (Q : List (Nat × Nat × Nat)) (P' : List Int) (hW : nestAns (wrapT s.data.toList) = (Q, P', m + 1, 0, 0)) (hQl : Q.length = S.length + 3) (hPl : P'.length = S.length + 3) (hk : ∀ j x, S[j]? = some x → ∃ y, Q[j + 1]? = some y ∧ y.1 = x.1) (hp : ∀ j : Nat, j < S.length → ∃ v, P[j]? = some v ∧ P'[j + 1]? = some (sh v)) (hp0 : P'[0]? = some ((S.length + 1 : Nat) : Int)) (hIv : Inv S.length S.length [] P) :
    Calls Try.prog 15 #[.string s] w fun e w' => e = .returned (.bool true) ∧ Below w.heap.size w w' := by
  have hM0 := hM.lt
  have HM := Lib.hid hM
  clear hM
  have h1 := fun w hM => nof_any s w hM
  have h2 := fun w hM => depth_any s w hM
  have h3 := fun w hM => nof_any (⟨#[40]⟩ ++ s ++ ⟨#[10, 41]⟩) w hM
  have h4 := fun w hM => depth_any (⟨#[40]⟩ ++ s ++ ⟨#[10, 41]⟩) w hM
  rw [hA] at h1 h2
  rw [wrap_text, hW] at h3 h4
  unfold OfOf at h1 h3
  dsimp only at h1 h2 h3 h4
  rw [hpl] at h1
  rw [hQl, hPl] at h3
  obtain ⟨n, hn⟩ : ∃ n, n = S.length := ⟨_, rfl⟩
  rw [← hn] at h1 h3 hpl hp hp0 hIv
  have HK := Lib.hid hk
  have HP := Lib.hid hp
  have HP0 := Lib.hid hp0
  have HN := Lib.hid hn
  have HIV := Lib.hid hIv
  clear hk hp hp0 hn hQl hPl hIv
  clear hA hpl hW
  have ha1 := fun w => run_string_add_sum (P := Try.prog) w ⟨#[40]⟩ s (by show 1 + _ ≤ _; omega)
  have ha2 := fun w => run_string_add_sum (P := Try.prog) w (⟨#[40]⟩ ++ s) ⟨#[10, 41]⟩ (by rw [ByteArray.size_append]; show 1 + _ + 2 ≤ _; omega)
  have hne := fun w => fault_neq 0 0 w
  rw [show (!(decide ((0 : Int) = 0) && decide ((0 : Int) = 0))) = false from rfl] at hne
  have hgd := fun u v w => fault_ngd u v #[.int .i64 0, .int .i64 0] #[.int .i64 0, .int .i64 0] w
  have hm1 : ((m : Int) == 100) = false := by simp; omega
  have TOK1 := True.intro
  have TOK2 := True.intro
  have TOK3 := True.intro
  go_enter Try.func15, Try.ntmps15
  go_wp2_with (first
    | (go_at_call 33; clear TOK1; refine (h1 _ HM.out).mono ?_; rintro e w1 ⟨⟨a, ca, b, cb, rfl, hT, hI, hl1, hl2⟩, hB1⟩; have HT := Lib.hid hT; have HI := Lib.hid hI; clear hT hI hl2)
    | (refine wpList_store_rowTo rfl 33 (.tmp 5) (.tmp 19) rfl rfl w1.heap.size #[.int .i64 0, .int .i64 0] rfl rfl 33 #[.int .i64 0, .int .i64 0] (heap_alloc_new w1 _) info33 rfl (by simp [Value.oneCell']) ?_; have hX1 := setRow_heap _ w1.heap.size _ #[.int .i64 0, .int .i64 0] _ _ (heap_alloc_new w1 (.cells #[.int .i64 0, .int .i64 0] 33)); have hY1 : Below w1.heap.size w1 _ := below_setRow ((Below.refl _ w1).alloc (Nat.le_refl _) (.cells #[.int .i64 0, .int .i64 0] 33)) (Nat.le_refl _) #[.int .i64 0, .int .i64 0]; have hz1 : w1.heap.size < ((w1.alloc (.cells #[.int .i64 0, .int .i64 0] 33)).setRow w1.heap.size #[.int .i64 0, .int .i64 0]).heap.size := (Array.getElem?_eq_some_iff.1 hX1).1; generalize (w1.alloc (.cells #[.int .i64 0, .int .i64 0] 33)).setRow w1.heap.size #[.int .i64 0, .int .i64 0] = W1 at hX1 hY1 hz1 ⊢; have a0 := cell_of_row _ _ 0 _ _ _ hX1; have a1 := cell_of_row _ _ 1 _ _ _ hX1; simp only [List.getElem?_toArray, List.getElem?_cons_zero, List.getElem?_cons_succ] at a0 a1; have hBw := hB1.trans (hY1.mono hB1.size); replace HT := Lib.hid (HT.out.below hY1); replace HI := Lib.hid (HI.out.below hY1); clear hX1 hY1 hB1 hz1)
    | (go_at_call 35; clear TOK2; refine (h2 _ (HM.out.below hBw hM0)).mono ?_; rintro e w2 ⟨rfl, hB2⟩; replace a0 := (hB2.cell (p := ⟨_, _, none⟩) (cell_lt a0)).trans a0; replace a1 := (hB2.cell (p := ⟨_, _, none⟩) (cell_lt a1)).trans a1; replace HT := Lib.hid (HT.out.below hB2); replace HI := Lib.hid (HI.out.below hB2); replace hBw := below_chain hBw hB2; clear hB2)
    | (refine wpList_store_rowTo rfl 33 (.tmp 7) (.tmp 24) rfl rfl w2.heap.size #[.int .i64 0, .int .i64 0] rfl rfl 33 #[.int .i64 0, .int .i64 0] (heap_alloc_new w2 _) info33 rfl (by simp [Value.oneCell']) ?_; have hX1 := setRow_heap _ w2.heap.size _ #[.int .i64 0, .int .i64 0] _ _ (heap_alloc_new w2 (.cells #[.int .i64 0, .int .i64 0] 33)); have hY1 : Below w2.heap.size w2 _ := below_setRow ((Below.refl _ w2).alloc (Nat.le_refl _) (.cells #[.int .i64 0, .int .i64 0] 33)) (Nat.le_refl _) #[.int .i64 0, .int .i64 0]; have hz1 : w2.heap.size < ((w2.alloc (.cells #[.int .i64 0, .int .i64 0] 33)).setRow w2.heap.size #[.int .i64 0, .int .i64 0]).heap.size := (Array.getElem?_eq_some_iff.1 hX1).1; generalize (w2.alloc (.cells #[.int .i64 0, .int .i64 0] 33)).setRow w2.heap.size #[.int .i64 0, .int .i64 0] = W2 at hX1 hY1 hz1 ⊢; replace a0 := (hY1.cell (p := ⟨_, _, none⟩) (cell_lt a0)).trans a0; replace a1 := (hY1.cell (p := ⟨_, _, none⟩) (cell_lt a1)).trans a1; replace HT := Lib.hid (HT.out.below hY1); replace HI := Lib.hid (HI.out.below hY1); replace hBw := below_chain hBw hY1; clear hX1 hY1 hz1)
    | (go_at_call 34; refine (fixed9_any _ (HM.out.below hBw hM0)).mono ?_; rintro e w3 ⟨rfl, hB2⟩; replace a0 := (hB2.cell (p := ⟨_, _, none⟩) (cell_lt a0)).trans a0; replace a1 := (hB2.cell (p := ⟨_, _, none⟩) (cell_lt a1)).trans a1; replace HT := Lib.hid (HT.out.below hB2); replace HI := Lib.hid (HI.out.below hB2); replace hBw := below_chain hBw hB2; clear hB2)
    | (go_at_call 33; clear TOK3; refine (h3 _ (HM.out.below hBw hM0)).mono ?_; rintro e w4 ⟨⟨a2, ca2, b2, cb2, rfl, hT2, hI2, hl3, hl4⟩, hB2⟩; clear a0 a1; replace HT := Lib.hid (HT.out.below hB2); replace HI := Lib.hid (HI.out.below hB2); replace hBw := below_chain hBw hB2; have HT2 := Lib.hid hT2; have HI2 := Lib.hid hI2; clear hT2 hI2 hl4 hB2)
    | (refine wpList_store_rowTo rfl 33 (.tmp 10) (.tmp 55) rfl rfl w4.heap.size #[.int .i64 0, .int .i64 0] rfl rfl 33 #[.int .i64 0, .int .i64 0] (heap_alloc_new w4 _) info33 rfl (by simp [Value.oneCell']) ?_; have hX1 := setRow_heap _ w4.heap.size _ #[.int .i64 0, .int .i64 0] _ _ (heap_alloc_new w4 (.cells #[.int .i64 0, .int .i64 0] 33)); have hY1 : Below w4.heap.size w4 _ := below_setRow ((Below.refl _ w4).alloc (Nat.le_refl _) (.cells #[.int .i64 0, .int .i64 0] 33)) (Nat.le_refl _) #[.int .i64 0, .int .i64 0]; have hz1 : w4.heap.size < ((w4.alloc (.cells #[.int .i64 0, .int .i64 0] 33)).setRow w4.heap.size #[.int .i64 0, .int .i64 0]).heap.size := (Array.getElem?_eq_some_iff.1 hX1).1; generalize (w4.alloc (.cells #[.int .i64 0, .int .i64 0] 33)).setRow w4.heap.size #[.int .i64 0, .int .i64 0] = W4 at hX1 hY1 hz1 ⊢; have c0 := cell_of_row _ _ 0 _ _ _ hX1; have c1 := cell_of_row _ _ 1 _ _ _ hX1; simp only [List.getElem?_toArray, List.getElem?_cons_zero, List.getElem?_cons_succ] at c0 c1; replace HT := Lib.hid (HT.out.below hY1); replace HI := Lib.hid (HI.out.below hY1); replace HT2 := Lib.hid (HT2.out.below hY1); replace HI2 := Lib.hid (HI2.out.below hY1); replace hBw := below_chain hBw hY1; clear hX1 hY1 hz1)
    | (go_at_call 35; refine (h4 _ (HM.out.below hBw hM0)).mono ?_; rintro e w5 ⟨rfl, hB2⟩; replace c0 := (hB2.cell (p := ⟨_, _, none⟩) (cell_lt c0)).trans c0; replace c1 := (hB2.cell (p := ⟨_, _, none⟩) (cell_lt c1)).trans c1; replace HT := Lib.hid (HT.out.below hB2); replace HI := Lib.hid (HI.out.below hB2); replace HT2 := Lib.hid (HT2.out.below hB2); replace HI2 := Lib.hid (HI2.out.below hB2); replace hBw := below_chain hBw hB2; clear hB2)
    | (refine wpList_store_rowTo rfl 33 (.tmp 12) (.tmp 72) rfl rfl w5.heap.size #[.int .i64 0, .int .i64 0] rfl rfl 33 #[.int .i64 0, .int .i64 0] (heap_alloc_new w5 _) info33 rfl (by simp [Value.oneCell']) ?_; have hX1 := setRow_heap _ w5.heap.size _ #[.int .i64 0, .int .i64 0] _ _ (heap_alloc_new w5 (.cells #[.int .i64 0, .int .i64 0] 33)); have hY1 : Below w5.heap.size w5 _ := below_setRow ((Below.refl _ w5).alloc (Nat.le_refl _) (.cells #[.int .i64 0, .int .i64 0] 33)) (Nat.le_refl _) #[.int .i64 0, .int .i64 0]; have hz1 : w5.heap.size < ((w5.alloc (.cells #[.int .i64 0, .int .i64 0] 33)).setRow w5.heap.size #[.int .i64 0, .int .i64 0]).heap.size := (Array.getElem?_eq_some_iff.1 hX1).1; generalize (w5.alloc (.cells #[.int .i64 0, .int .i64 0] 33)).setRow w5.heap.size #[.int .i64 0, .int .i64 0] = W5 at hX1 hY1 hz1 ⊢; have d0 := cell_of_row _ _ 0 _ _ _ hX1; have d1 := cell_of_row _ _ 1 _ _ _ hX1; simp only [List.getElem?_toArray, List.getElem?_cons_zero, List.getElem?_cons_succ] at d0 d1; replace c0 := (hY1.cell (p := ⟨_, _, none⟩) (cell_lt c0)).trans c0; replace c1 := (hY1.cell (p := ⟨_, _, none⟩) (cell_lt c1)).trans c1; replace HT := Lib.hid (HT.out.below hY1); replace HI := Lib.hid (HI.out.below hY1); replace HT2 := Lib.hid (HT2.out.below hY1); replace HI2 := Lib.hid (HI2.out.below hY1); replace hBw := below_chain hBw hY1; obtain ⟨gq, rfl, e0⟩ := HI2.out 0 _ HP0.out; clear hX1 hY1 hz1))
  clear h1 h2 h3 h4 c0 c1 d0 d1 e0 ha1 ha2 hne hgd HP0
  have HBW := Lib.hid hBw
  clear hBw
  go_loopw [13] (fun kv wr => ∃ (i : Nat), i ≤ n ∧ kv = .int .i64 i ∧ Hid (Below w.heap.size w wr) ∧ Hid (Toks wr a S) ∧ Hid (Toks wr a2 Q) ∧ Hid (Ints wr b P) ∧ Hid (Ints wr (some ⟨gq, 0, none⟩) P')) (fun kv _ => n - (intOf kv).toNat)
  case atStart => exact ⟨0, by omega, rfl, HBW, HT, HT2, HI, HI2⟩
  case round =>
    clear HBW HT HT2 HI HI2
    obtain ⟨i, hi, rfl, HBW, HT, HT2, HI, HI2⟩ := hrel
    by_cases hlt : i < n
    · have j1 : (i : Int) < n := by omega
      have j0 : (0 : Int) ≤ i := by omega
      obtain ⟨⟨K, p1, z1⟩, hx⟩ : ∃ x, S[i]? = some x := ⟨S[i]'(by rw [← HN.out]; exact hlt), List.getElem?_eq_getElem (by rw [← HN.out]; exact hlt)⟩
      obtain ⟨⟨K2, p2, z2⟩, hy, hKK⟩ := HK.out i _ hx
      have hKK : K2 = K := hKK
      subst hKK
      obtain ⟨v, hv, hv2⟩ := HP.out i hlt
      obtain ⟨v', hv', hcase⟩ := HIV.out.each i hlt
      have hvv : v' = v := by rw [hv] at hv'; injection hv' with hv'; exact hv'.symm
      subst hvv
      obtain ⟨g1, rfl, t0, _, _⟩ := HT.out i _ hx
      obtain ⟨g2, rfl, u0, _, _⟩ := HT2.out (i + 1) _ hy
      obtain ⟨g3, rfl, e0⟩ := HI.out i _ hv
      obtain ⟨g4, hg4, f0⟩ := HI2.out (i + 1) _ hv2
      have hg4 : gq = g4 := by injection hg4 with hg4; injection hg4
      subst hg4
      clear hx hy hv hv2 hv'
      have kk : ((K2 : Int) != K2) = false := by simp
      by_cases hv1 : v' = -1
      · subst hv1
        rw [show sh (-1) = -1 from rfl] at f0
        clear hcase
        go_wp2
        go_quiet (fail)
        go_wp2
        go_roundw
        case rel => exact ⟨i + 1, by omega, by go_num, Lib.hid (below_drewN HBW.out _), HT, HT2, HI, HI2⟩
        case measure => simp [intOf]; omega
      · rw [show sh v' = v' + 1 by unfold sh; rw [if_neg hv1]] at f0
        have k1 : (v' == -1) = false := by simpa using hv1
        have k2 : (v' != -1) = true := by simpa using hv1
        have k3 : ((v' + 1) != (v' + 1)) = false := by simp
        obtain ⟨b1, b2⟩ : 0 ≤ v' ∧ v' < n := by
          rcases hcase with h | ⟨q, h, h', _⟩
          · exact absurd h hv1
          · omega
        clear hcase hv1
        go_wp2
        go_quiet (fail)
        go_wp2
        go_roundw
        case rel => exact ⟨i + 1, by omega, by go_num, Lib.hid (below_drewN HBW.out _), HT, HT2, HI, HI2⟩
        case measure => simp [intOf]; omega
    · obtain rfl : i = n := by omega
      go_wp2
      go_ret
      exact ⟨rfl, HBW.out⟩
theorem lawwrapped_any (s : ByteArray) (w : World) (hM : Mx w) :
    Calls Try.prog 15 #[.string s] w fun e w' => e = .returned (.bool true) ∧ Below w.heap.size w w' := by
  rcases nest_cases s.data.toList with ⟨f, g, h1, h2⟩ | ⟨S, P, m, h1, h2, h3, h4⟩
  · exact wrapped_bad s w hM [] [] 0 f g h1 h2
  by_cases hl : 65533 < s.size
  · exact wrapped_long s w hM S P m 0 0 h1 rfl rfl hl
  by_cases hq : s.data.toList.take 3 = [239, 187, 191]
  · have h5 := congrArg List.length hq
    rw [List.length_take, ba_list] at h5
    have h5 : min 3 s.size = 3 := h5
    exact wrapped_mark s w hM S P m 0 0 h1 rfl rfl (by omega) (by omega) hq
  have hb : chr s.data.toList ≠ 65279 := fun e => hq (head_mark e).1
  have hI := nest_inv s.data.toList S S 0 [] 0 _ P 0 m (by omega) (inv_start _) h3
  rcases wrap_nest h2 h3 (by rw [ba_list]; omega) hb with ⟨k1, g, k2⟩ | ⟨k1, Q, P', k2, k3, k4, k5, k6, k7⟩
  · by_cases hs2 : 2 < s.size
    · exact wrapped_deep1 s w hM S P m h1 h4 (by omega) hs2 hq k1 g k2
    · exact wrapped_deep2 s w hM S P m h1 h4 (by omega) (by omega) k1 g k2
  · by_cases hs2 : 2 < s.size
    · exact wrapped_good1 s w hM S P m h1 h4 (by omega) hs2 hq k1 Q P' k2 k3 k4 k5 k6 k7 hI
    · exact wrapped_good2 s w hM S P m h1 h4 (by omega) (by omega) k1 Q P' k2 k3 k4 k5 k6 k7 hI
end Go.Proofs.Ytbkmlldhjchhjaa
