/-
  Layer 8: contract of the law SemiPuts.
-/
import Derived.Test.YtbkmlldhjchhjaaGreatZd
import Derived.Test.YtbkmlldhjchhjaaGreatTj
namespace Go.Proofs.YtbkmlldhjchhjaaGreat
open Go.ChangeShapes Go.WideShapes Go.ChangeAt Go.RowKit

theorem rof_any (s : ByteArray) (w : World) :
    Calls Tryz.prog 7 #[.string s] w fun e w' => AllOf w.heap.size (semAns s.data.toList) e w' ∧ Below w.heap.size w w' := by
  rcases all_cases s.data.toList with ⟨f, g, h1, h2, h3, h4⟩ | ⟨T, h1, h2, h3⟩
  · unfold semAns
    rw [h1, if_neg h2]
    exact rof_bad s w f g h1 h2
  · unfold semAns
    rw [h1, if_pos rfl]
    rw [ba_list] at h2
    exact rof_good s w T h1 h2 h3
set_option maxRecDepth 100000 in
set_option maxHeartbeats 4000000 in
theorem lawputs_any (s : ByteArray) (w : World) (hM : Mx w) :
    Calls Tryz.prog 3 #[.string s] w fun e w' => e = .returned (.bool true) ∧ Below w.heap.size w w' := by
  have hM0 := hM.lt
  have HM := Lib.hid hM
  clear hM
  by_cases hbig : 2000 < s.size
  · have i1 : (2000 : Int) < s.size := by omega
    go_enter Tryz.func3, Tryz.ntmps3
    go_wp2_with (go_at_call 5; refine (fixed8_any _ HM.out).mono ?_; rintro e w1 ⟨rfl, hB⟩)
    go_ret
    exact ⟨rfl, hB⟩
  have i1 : ¬ (2000 : Int) < s.size := by omega
  have h1 : ∀ w, Mx w → Calls Tryz.prog 6 #[.string s] w fun e w' => (∃ a cap, e = .returned (.tuple #[.slice a (semAns s.data.toList).1.length cap, .agg #[.int .i64 (semAns s.data.toList).2.1, .int .i64 (semAns s.data.toList).2.2]]) ∧ Toks w' a (semAns s.data.toList).1 ∧ (semAns s.data.toList).1.length ≤ maxLen) ∧ Below w.heap.size w w' := fun w hM => by
    refine (semi_any s w hM).mono ?_
    rintro e w' ⟨⟨v, rfl, hO⟩, hB⟩
    obtain ⟨a, cap, rfl, hT, hL⟩ := own_toks hO
    exact ⟨⟨a, cap, rfl, hT, hL⟩, hB⟩
  have h2 : ∀ w, Calls Tryz.prog 7 #[.string s] w fun e w' => (∃ a cap, e = .returned (.tuple #[.slice a (semAns s.data.toList).1.length cap, .agg #[.int .i64 (semAns s.data.toList).2.1, .int .i64 (semAns s.data.toList).2.2]]) ∧ Toks w' a (semAns s.data.toList).1) ∧ Below w.heap.size w w' := fun w => by
    refine (rof_any s w).mono ?_
    rintro e w' ⟨⟨v, rfl, hO⟩, hB⟩
    obtain ⟨a, cap, rfl, hT, _⟩ := own_toks hO
    exact ⟨⟨a, cap, rfl, hT⟩, hB⟩
  obtain ⟨R, hR⟩ : ∃ R, R = semAns s.data.toList := ⟨_, rfl⟩
  rw [← hR] at h1 h2
  clear hR
  obtain ⟨T, f, g⟩ := R
  dsimp only at h1 h2
  have hne := fun w => fault_eq f g w
  have hgd := fun u v w => fault_guard u v #[.int .i64 f, .int .i64 g] #[.int .i64 f, .int .i64 g] w
  clear hbig
  all_goals
    go_enter Tryz.func3, Tryz.ntmps3
    go_wp2_with (first
      | (go_at_call 6; refine (h1 _ HM.out).mono ?_; rintro e w1 ⟨⟨a, ca, rfl, hTa, hLn⟩, hB1⟩; have HTA := Lib.hid hTa; clear hTa)
      | (go_at_call 7; refine (h2 _).mono ?_; rintro e w2 ⟨⟨b, cb, rfl, hTb⟩, hB3⟩; have HTB := Lib.hid hTb; clear hTb)
      | (go_at_call 5; refine (fixed8_any _ (HM.out.below (below_chain hB1 (below_chain hY1 (below_chain hB3 hY2))) hM0)).mono ?_; rintro e w3 ⟨rfl, hB5⟩; have hBc := below_chain hY2 hB5; have hBb := below_chain hB3 hBc; have hBa := below_chain hY1 hBb; have hBw := below_chain hB1 hBa; have R1 := (hBb.block w1.heap.size hz1).trans HX1.out; have R2 := (hB5.block w2.heap.size hz2).trans HX2.out; have a0 := cell_of_row _ _ 0 _ _ _ R1; have a1 := cell_of_row _ _ 1 _ _ _ R1; have b0 := cell_of_row _ _ 0 _ _ _ R2; have b1 := cell_of_row _ _ 1 _ _ _ R2; simp only [List.getElem?_toArray, List.getElem?_cons_zero, List.getElem?_cons_succ] at a0 a1 b0 b1; have TA := Lib.hid (HTA.out.below hBa); have TB := Lib.hid (HTB.out.below hBc); clear R1 R2 hBa hBb hBc hY1 hY2 hB1 hB3 hB5 HX1 HX2 hz1 hz2 HTA HTB)
      | (go_at_call 8; refine (same_yes _ a b ca cb T TA.out TB.out hLn).mono ?_; rintro e w4 ⟨rfl, hB6⟩; replace hBw := below_chain hBw hB6; clear hB6)
      | (refine wpList_store_rowTo rfl 26 (.tmp 4) (.tmp 15) rfl rfl w1.heap.size #[.int .i64 f, .int .i64 g] rfl rfl 26 #[.int .i64 0, .int .i64 0] (heap_alloc_new w1 _) info33 rfl (by simp [Value.oneCell']) ?_; have hX1 := setRow_heap _ w1.heap.size _ #[.int .i64 f, .int .i64 g] _ _ (heap_alloc_new w1 (.cells #[.int .i64 0, .int .i64 0] 26)); have hY1 : Below w1.heap.size w1 _ := below_setRow ((Below.refl _ w1).alloc (Nat.le_refl _) (.cells #[.int .i64 0, .int .i64 0] 26)) (Nat.le_refl _) #[.int .i64 f, .int .i64 g]; have hz1 : w1.heap.size < ((w1.alloc (.cells #[.int .i64 0, .int .i64 0] 26)).setRow w1.heap.size #[.int .i64 f, .int .i64 g]).heap.size := (Array.getElem?_eq_some_iff.1 hX1).1; generalize (w1.alloc (.cells #[.int .i64 0, .int .i64 0] 26)).setRow w1.heap.size #[.int .i64 f, .int .i64 g] = W1 at hX1 hY1 hz1 ⊢; have HX1 := Lib.hid hX1; clear hX1)
      | (refine wpList_store_rowTo rfl 26 (.tmp 6) (.tmp 20) rfl rfl w2.heap.size #[.int .i64 f, .int .i64 g] rfl rfl 26 #[.int .i64 0, .int .i64 0] (heap_alloc_new w2 _) info33 rfl (by simp [Value.oneCell']) ?_; have hX2 := setRow_heap _ w2.heap.size _ #[.int .i64 f, .int .i64 g] _ _ (heap_alloc_new w2 (.cells #[.int .i64 0, .int .i64 0] 26)); have hY2 : Below w2.heap.size w2 _ := below_setRow ((Below.refl _ w2).alloc (Nat.le_refl _) (.cells #[.int .i64 0, .int .i64 0] 26)) (Nat.le_refl _) #[.int .i64 f, .int .i64 g]; have hz2 : w2.heap.size < ((w2.alloc (.cells #[.int .i64 0, .int .i64 0] 26)).setRow w2.heap.size #[.int .i64 f, .int .i64 g]).heap.size := (Array.getElem?_eq_some_iff.1 hX2).1; generalize (w2.alloc (.cells #[.int .i64 0, .int .i64 0] 26)).setRow w2.heap.size #[.int .i64 f, .int .i64 g] = W2 at hX2 hY2 hz2 ⊢; have HX2 := Lib.hid hX2; clear hX2))
    go_ret
    exact ⟨rfl, hBw⟩
end Go.Proofs.YtbkmlldhjchhjaaGreat
