/-
  Layer 9: contracts of nest.Of, nest.Depth, of the document's Ints; the law's fixed answers.
-/
import Derived.Test.YtbkmlldhjchhjaaGreatTq
namespace Go.Proofs.YtbkmlldhjchhjaaGreat
open Go.ChangeShapes Go.WideShapes Go.ChangeAt Go.RowKit

theorem sem_bad {l : List UInt8} {f g : Int} (h : allAns l = ([], f, g)) (hf : f ≠ 0) : semAns l = ([], f, g) := by
  unfold semAns
  rw [h, if_neg hf]
theorem sem_good {l : List UInt8} {T : List (Nat × Nat × Nat)} (h : allAns l = (T, 0, 0)) : semAns l = (sems l none T, 0, 0) := by
  unfold semAns
  rw [h, if_pos rfl]
theorem ord_mem {n : Nat} : ∀ (T : List (Nat × Nat × Nat)) (p : Nat), Ord n p T → ∀ x ∈ T, x.2.1 ≤ x.2.2 ∧ x.2.2 ≤ n
  | [], _, _, x, hx => by cases hx
  | y :: T, p, h, x, hx => by
    obtain ⟨h1, h2, h3, h4⟩ := h
    rcases List.mem_cons.1 hx with rfl | hx
    · exact ⟨h2, h3⟩
    · exact ord_mem T _ h4 x hx
theorem nread_any (s : ByteArray) (w : World) (hM : Mx w) :
    Calls Tryz.prog 23 #[.string s] w fun e w' => ReadOf w.heap.size (nestAns s.data.toList) e w' ∧ Below w.heap.size w w' := by
  rcases all_cases s.data.toList with ⟨f, g, h1, h2, _, _⟩ | ⟨T, h1, h2, h3⟩
  · rw [nest_bad (sem_bad h1 h2) h2]
    exact read_bad s w hM f g (sem_bad h1 h2) h2
  · have hT := tiles_len T 0 h3 (Nat.zero_le _)
    have hl := sems_len s.data.toList T none
    have h0 : (semiO none).length = 0 := rfl
    have hOr := sems_ord (l := s.data.toList) T 0 0 none h3 (Nat.le_refl _) (Nat.zero_le _) (fun z h => by cases h)
    rw [ba_list] at hOr
    exact read_good s w hM _ (sem_good h1) (by omega) (ord_mem _ 0 hOr)
theorem ints_setRow {w : World} {q : Nat} {b : Option Addr} {P : List Int} (h : Ints w b P) (hb : ∀ ad, b = some ad → q < ad.block) (cs : Array Value) : Ints (w.setRow q cs) b P := by
  intro k x hk
  obtain ⟨g, rfl, c0⟩ := h k x hk
  have hne : g ≠ q := by have : q < g := hb _ rfl; omega
  exact ⟨g, rfl, (World.cell?_of_block (a := ⟨g, k, none⟩) (setRow_other w q g cs hne)).trans c0⟩
theorem results_two_row {fn : Func} {p u v : Tmp} {ty : TypeId} {P : Program} (h : fn.results = #[.tmp u, .tmp v, .cell p ty]) (tmps : Array Value) (w : World) (g : Nat) (cs : Array Value) (e1 e2 : Value)
    (hp : tmps.getD p undef = .pointer (some ⟨g, 0, none⟩)) (h1 : tmps.getD u undef = e1) (h2 : tmps.getD v undef = e2) (hl : (loadVar ty ⟨g, 0, none⟩).run P w = .ok (.agg cs) w) :
    (results fn tmps).run P w = .ok (.tuple #[e1, e2, .agg cs]) w := by
  have hp' : tmps[p]?.getD undef = .pointer (some ⟨g, 0, none⟩) := by simpa using hp
  have h1' : tmps[u]?.getD undef = e1 := by simpa using h1
  have h2' : tmps[v]?.getD undef = e2 := by simpa using h2
  simp [results, h, Result.andThen, asAddr, hp', h1', h2', hl]
/-- what nest.Of answers -/
def OfOf (A : List (Nat × Nat × Nat) × List Int × Nat × Int × Int) (e : Ending) (w' : World) : Prop :=
  ∃ a ca b cb, e = .returned (.tuple #[.slice a A.1.length ca, .slice b A.2.1.length cb, .agg #[.int .i64 A.2.2.2.1, .int .i64 A.2.2.2.2]]) ∧ Toks w' a A.1 ∧ Ints w' b A.2.1 ∧ A.1.length ≤ 1048576 ∧ A.2.1.length = A.1.length
set_option maxRecDepth 100000 in
set_option maxHeartbeats 8000000 in
theorem nof_any (s : ByteArray) (w : World) (hM : Mx w) :
    Calls Tryz.prog 10 #[.string s] w fun e w' => OfOf (nestAns s.data.toList) e w' ∧ Below w.heap.size w w' := by
  have HM := Lib.hid (hM.alloc (.cells #[.int .i64 0, .int .i64 0] 26))
  have HB0 := Lib.hid (show Below w.heap.size w (w.alloc (.cells #[.int .i64 0, .int .i64 0] 26)) from (Below.refl _ _).alloc (Nat.le_refl _) _)
  have HH0 := Lib.hid (show (w.alloc (.cells #[.int .i64 0, .int .i64 0] 26)).heap[w.heap.size]? = some (.cells #[.int .i64 0, .int .i64 0] 26) from heap_alloc_new w _)
  have HZ0 := Lib.hid (show (w.alloc (.cells #[.int .i64 0, .int .i64 0] 26)).heap.size = w.heap.size + 1 by simp)
  have h1 := fun w hM => nread_any s w hM
  obtain ⟨A, hA⟩ : ∃ A, A = nestAns s.data.toList := ⟨_, rfl⟩
  rw [← hA] at h1
  rw [← hA]
  obtain ⟨T, P, most, f, g⟩ := A
  clear hA hM
  go_enter Tryz.func10, Tryz.ntmps10
  go_wp2_with (first
    | (go_at_call 23; refine (h1 _ HM.out).mono ?_; rintro e w1 ⟨⟨a, ca, b, cb, rfl, hTa, hIb, hln, hle, hbb⟩, hB1⟩; rw [HZ0.out] at hbb; replace hB1 := hB1.mono (show w.heap.size + 1 ≤ _ by rw [HZ0.out]; exact Nat.le_refl _); have HTA := Lib.hid hTa; have HIB := Lib.hid hIb; have HBB := Lib.hid hbb; have HLN := Lib.hid (And.intro hln hle); clear hTa hIb hbb hln hle)
    | (refine wpList_store_rowTo rfl 26 (.tmp 8) (.tmp 15) rfl rfl w1.heap.size #[.int .i64 f, .int .i64 g] rfl rfl 26 #[.int .i64 0, .int .i64 0] (heap_alloc_new w1 _) info33 rfl (by simp [Value.oneCell']) ?_; have hX1 := setRow_heap _ w1.heap.size _ #[.int .i64 f, .int .i64 g] _ _ (heap_alloc_new w1 (.cells #[.int .i64 0, .int .i64 0] 26)); have hY1 : Below w1.heap.size w1 _ := below_setRow ((Below.refl _ w1).alloc (Nat.le_refl _) (.cells #[.int .i64 0, .int .i64 0] 26)) (Nat.le_refl _) #[.int .i64 f, .int .i64 g]; have hz1 : w1.heap.size < ((w1.alloc (.cells #[.int .i64 0, .int .i64 0] 26)).setRow w1.heap.size #[.int .i64 f, .int .i64 g]).heap.size := (Array.getElem?_eq_some_iff.1 hX1).1; generalize (w1.alloc (.cells #[.int .i64 0, .int .i64 0] 26)).setRow w1.heap.size #[.int .i64 f, .int .i64 g] = W1 at hX1 hY1 hz1 ⊢; have hBw := hB1.trans (hY1.mono (by have := hB1.size; rw [HZ0.out] at this; exact this)); have a0 := cell_of_row _ _ 0 _ _ _ hX1; have a1 := cell_of_row _ _ 1 _ _ _ hX1; simp only [List.getElem?_toArray, List.getElem?_cons_zero, List.getElem?_cons_succ] at a0 a1; replace HTA := Lib.hid (HTA.out.below hY1); replace HIB := Lib.hid (HIB.out.below hY1); clear hX1 hY1 hB1 hz1))
  go_still_tail 5, (by kernel_rfl)
  change wpList _ _ _ _ _ W1.drew
  have hBx := hBw.drew
  have HR := Lib.hid ((hBx.block w.heap.size (by omega)).trans HH0.out)
  have HT2 : Hid (Toks W1.drew a T) := Lib.hid HTA.out
  have HI2 : Hid (Ints W1.drew b P) := Lib.hid HIB.out
  clear a0 a1 hBw HTA HIB
  generalize W1.drew = W2 at hBx HR HT2 HI2 ⊢
  go_wp2_with (refine wpList_store_rowTo rfl 26 (.tmp 4) (.tmp 18) rfl rfl w.heap.size #[.int .i64 f, .int .i64 g] rfl rfl 26 #[.int .i64 0, .int .i64 0] HR.out info33 rfl (by simp [Value.oneCell']) ?_)
  (try simp only [Exit.inBlock, Exit.then])
  refine bodyPost_ret (v := .tuple #[_, _, .agg #[.int .i64 f, .int .i64 g]]) (results_two_row (u := 2) (v := 3) (p := 4) rfl _ _ w.heap.size #[.int .i64 f, .int .i64 g] _ _ rfl rfl rfl (run_loadVar_row _ w.heap.size 26 26 #[.int .i64 f, .int .i64 g] (0, 0) _ (setRow_heap _ _ _ _ _ _ HR.out) Tryz.underlying26 rfl info33)) rfl ⟨⟨a, ca, b, cb, rfl, toks_setRow HT2.out HR.out _, ints_setRow HI2.out HBB.out _, HLN.out.1, HLN.out.2⟩, below_setRow (HB0.out.trans (hBx.mono (by omega))) (Nat.le_refl _) _⟩
set_option maxRecDepth 100000 in
set_option maxHeartbeats 8000000 in
theorem depth_any (s : ByteArray) (w : World) (hM : Mx w) :
    Calls Tryz.prog 11 #[.string s] w fun e w' => e = .returned (.tuple #[.int .i64 ((nestAns s.data.toList).2.2.1 : Int), .agg #[.int .i64 (nestAns s.data.toList).2.2.2.1, .int .i64 (nestAns s.data.toList).2.2.2.2]]) ∧ Below w.heap.size w w' := by
  have HM := Lib.hid (hM.alloc (.cells #[.int .i64 0, .int .i64 0] 26))
  have HB0 := Lib.hid (show Below w.heap.size w (w.alloc (.cells #[.int .i64 0, .int .i64 0] 26)) from (Below.refl _ _).alloc (Nat.le_refl _) _)
  have HH0 := Lib.hid (show (w.alloc (.cells #[.int .i64 0, .int .i64 0] 26)).heap[w.heap.size]? = some (.cells #[.int .i64 0, .int .i64 0] 26) from heap_alloc_new w _)
  have HZ0 := Lib.hid (show (w.alloc (.cells #[.int .i64 0, .int .i64 0] 26)).heap.size = w.heap.size + 1 by simp)
  have h1 := fun w hM => nread_any s w hM
  obtain ⟨A, hA⟩ : ∃ A, A = nestAns s.data.toList := ⟨_, rfl⟩
  rw [← hA] at h1
  rw [← hA]
  obtain ⟨T, P, most, f, g⟩ := A
  clear hA hM
  go_enter Tryz.func11, Tryz.ntmps11
  go_wp2_with (first
    | (go_at_call 23; refine (h1 _ HM.out).mono ?_; rintro e w1 ⟨⟨a, ca, b, cb, rfl, hTa, hIb, hln, hle, hbb⟩, hB1⟩; replace hB1 := hB1.mono (show w.heap.size + 1 ≤ _ by rw [HZ0.out]; exact Nat.le_refl _); clear hTa hIb hbb hln hle)
    | (refine wpList_store_rowTo rfl 26 (.tmp 7) (.tmp 14) rfl rfl w1.heap.size #[.int .i64 f, .int .i64 g] rfl rfl 26 #[.int .i64 0, .int .i64 0] (heap_alloc_new w1 _) info33 rfl (by simp [Value.oneCell']) ?_; have hX1 := setRow_heap _ w1.heap.size _ #[.int .i64 f, .int .i64 g] _ _ (heap_alloc_new w1 (.cells #[.int .i64 0, .int .i64 0] 26)); have hY1 : Below w1.heap.size w1 _ := below_setRow ((Below.refl _ w1).alloc (Nat.le_refl _) (.cells #[.int .i64 0, .int .i64 0] 26)) (Nat.le_refl _) #[.int .i64 f, .int .i64 g]; have hz1 : w1.heap.size < ((w1.alloc (.cells #[.int .i64 0, .int .i64 0] 26)).setRow w1.heap.size #[.int .i64 f, .int .i64 g]).heap.size := (Array.getElem?_eq_some_iff.1 hX1).1; generalize (w1.alloc (.cells #[.int .i64 0, .int .i64 0] 26)).setRow w1.heap.size #[.int .i64 f, .int .i64 g] = W1 at hX1 hY1 hz1 ⊢; have hBw := hB1.trans (hY1.mono (by have := hB1.size; rw [HZ0.out] at this; exact this)); have a0 := cell_of_row _ _ 0 _ _ _ hX1; have a1 := cell_of_row _ _ 1 _ _ _ hX1; simp only [List.getElem?_toArray, List.getElem?_cons_zero, List.getElem?_cons_succ] at a0 a1; clear hX1 hY1 hB1 hz1))
  go_still_tail 3, (by kernel_rfl)
  change wpList _ _ _ _ _ W1.drew
  have hBx := hBw.drew
  have HR := Lib.hid ((hBx.block w.heap.size (by omega)).trans HH0.out)
  clear a0 a1 hBw
  generalize W1.drew = W2 at hBx HR ⊢
  go_wp2_with (refine wpList_store_rowTo rfl 26 (.tmp 3) (.tmp 16) rfl rfl w.heap.size #[.int .i64 f, .int .i64 g] rfl rfl 26 #[.int .i64 0, .int .i64 0] HR.out info33 rfl (by simp [Value.oneCell']) ?_)
  (try simp only [Exit.inBlock, Exit.then])
  refine bodyPost_ret (v := .tuple #[_, .agg #[.int .i64 f, .int .i64 g]]) (results_tmp_row (u := 2) (p := 3) rfl _ _ w.heap.size #[.int .i64 f, .int .i64 g] _ rfl rfl (run_loadVar_row _ w.heap.size 26 26 #[.int .i64 f, .int .i64 g] (0, 0) _ (setRow_heap _ _ _ _ _ _ HR.out) Tryz.underlying26 rfl info33)) rfl ⟨rfl, below_setRow (HB0.out.trans (hBx.mono (by omega))) (Nat.le_refl _) _⟩
set_option maxRecDepth 100000 in
set_option maxHeartbeats 4000000 in
theorem ints_yes (w : World) (a b : Option Addr) (ca cb : Nat) (P : List Int) (he : Ints w a P) (hf : Ints w b P) (hn : P.length ≤ maxLen) :
    Calls Tryz.prog 13 #[.slice a P.length ca, .slice b P.length cb] w fun e w' => e = .returned (.bool true) ∧ Below w.heap.size w w' := by
  unfold maxLen at hn
  obtain ⟨n, hnn⟩ : ∃ n, n = P.length := ⟨_, rfl⟩
  rw [← hnn] at hn ⊢
  have HN := Lib.hid hnn
  clear hnn
  go_enter Tryz.func13, Tryz.ntmps13
  go_wp2
  go_loopw [5] (fun i wr => ∃ (k : Nat), k ≤ n ∧ i = .int .i64 k ∧ Below w.heap.size w wr) (fun i _ => n - (intOf i).toNat)
  case atStart => exact ⟨0, by omega, rfl, Below.refl _ _⟩
  case round =>
    obtain ⟨k, hk, rfl, hB⟩ := hrel
    by_cases hlt : k < n
    · have j1 : (k : Int) < n := by omega
      have j0 : (0 : Int) ≤ k := by omega
      obtain ⟨x, hx⟩ : ∃ x, P[k]? = some x := ⟨P[k]'(by rw [← HN.out]; exact hlt), List.getElem?_eq_getElem (by rw [← HN.out]; exact hlt)⟩
      obtain ⟨g, rfl, c0⟩ := he.below hB k _ hx
      obtain ⟨g', rfl, d0⟩ := hf.below hB k _ hx
      clear he hf hx
      go_wp2
      go_quiet (fail)
      go_wp2
      go_roundw
      case rel => exact ⟨k + 1, by omega, by go_num, below_drewN hB _⟩
      case measure => simp [intOf]; omega
    · obtain rfl : k = n := by omega
      go_wp2
      go_ret
      exact ⟨rfl, hB⟩
theorem lit9a : nestAns [102, 40, 97, 91, 49, 93, 41] = ([(1, 0, 1), (8, 1, 2), (1, 2, 3), (8, 3, 4), (3, 4, 5), (8, 5, 6), (8, 6, 7), (9, 7, 7)], [-1, 6, -1, 5, -1, 3, 1, -1], 2, 0, 0) := by kernel_rfl
theorem lit9b : nestAns [40, 93] = ([], [], 0, 5, 1) := by kernel_rfl
theorem lit9c : (nestAns [97, 40, 98, 41, 123, 99, 91, 49, 93, 125]).2.2 = (2, 0, 0) := by kernel_rfl
end Go.Proofs.YtbkmlldhjchhjaaGreat
