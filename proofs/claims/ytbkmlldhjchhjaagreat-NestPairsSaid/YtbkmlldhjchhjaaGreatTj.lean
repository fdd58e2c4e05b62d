/-
  Layer 8: contract of the law's fixed answers; the law SemiEnds.
-/
import Derived.Test.YtbkmlldhjchhjaaGreatTe
import Derived.Test.YtbkmlldhjchhjaaGreatTh
namespace Go.Proofs.YtbkmlldhjchhjaaGreat
open Go.ChangeShapes Go.WideShapes Go.ChangeAt Go.RowKit

theorem lit8a : semAns [97, 10, 98] = ([(1, 0, 1), (9, 1, 1), (1, 2, 3), (9, 3, 3)], 0, 0) := by kernel_rfl
theorem lit8b : semAns [97, 32, 43, 10, 98, 59] = ([(1, 0, 1), (8, 2, 3), (1, 4, 5), (9, 5, 6)], 0, 0) := by kernel_rfl
/-- semi.Of, in plain words -/
theorem semi_toks (s : ByteArray) (w : World) (hM : Mx w) : Calls Tryz.prog 6 #[.string s] w fun e w' => (∃ a cap, e = .returned (.tuple #[.slice a (semAns s.data.toList).1.length cap, .agg #[.int .i64 (semAns s.data.toList).2.1, .int .i64 (semAns s.data.toList).2.2]]) ∧ Toks w' a (semAns s.data.toList).1 ∧ (semAns s.data.toList).1.length ≤ maxLen) ∧ Below w.heap.size w w' := by
  refine (semi_any s w hM).mono ?_
  rintro e w' ⟨⟨v, rfl, hO⟩, hB⟩
  obtain ⟨a, cap, rfl, hT, hL⟩ := own_toks hO
  exact ⟨⟨a, cap, rfl, hT, hL⟩, hB⟩
set_option maxRecDepth 100000 in
set_option maxHeartbeats 4000000 in
theorem fixed8_any (w : World) (hM : Mx w) :
    Calls Tryz.prog 5 #[] w fun e w' => e = .returned (.bool true) ∧ Below w.heap.size w w' := by
  have h1 : ∀ w, Mx w → Calls Tryz.prog 6 #[.string ⟨#[97, 10, 98]⟩] w fun e w' => (∃ g cap, e = .returned (.tuple #[.slice (some ⟨g, 0, none⟩) 4 cap, .agg #[.int .i64 0, .int .i64 0]]) ∧ w'.cell? ⟨g, 3, none⟩ = some (.int .u8 9) ∧ w'.cell? ⟨g, 4, none⟩ = some (.int .i64 1) ∧ w'.cell? ⟨g, 5, none⟩ = some (.int .i64 1)) ∧ Below w.heap.size w w' := fun w hM => by
    refine (semi_toks _ w hM).mono ?_
    rw [show (⟨#[97, 10, 98]⟩ : ByteArray).data.toList = [97, 10, 98] from rfl, lit8a]
    rintro e w' ⟨⟨a, cap, rfl, hT, _⟩, hB⟩
    obtain ⟨g, rfl, c0, c1, c2⟩ := hT 1 (9, 1, 1) rfl
    exact ⟨⟨g, cap, rfl, c0, c1, c2⟩, hB⟩
  have h2 : ∀ w, Mx w → Calls Tryz.prog 6 #[.string ⟨#[97, 32, 43, 10, 98, 59]⟩] w fun e w' => (∃ a cap, e = .returned (.tuple #[.slice a 4 cap, .agg #[.int .i64 0, .int .i64 0]])) ∧ Below w.heap.size w w' := fun w hM => by
    refine (semi_toks _ w hM).mono ?_
    rw [show (⟨#[97, 32, 43, 10, 98, 59]⟩ : ByteArray).data.toList = [97, 32, 43, 10, 98, 59] from rfl, lit8b]
    rintro e w' ⟨⟨a, cap, rfl, _, _⟩, hB⟩
    exact ⟨⟨a, cap, rfl⟩, hB⟩
  have h3 : ∀ w, Calls Tryz.prog 14 #[.int .u8 8, .string ⟨#[125]⟩] w fun e w' => e = .returned (.bool true) ∧ w = w' := fun w => ends_any 8 ⟨#[125]⟩ w
  have h4 : ∀ w, Calls Tryz.prog 14 #[.int .u8 2, .string ⟨#[103, 111]⟩] w fun e w' => e = .returned (.bool false) ∧ w = w' := fun w => ends_any 2 ⟨#[103, 111]⟩ w
  have hne := fun w => fault_eq 0 0 w
  have hgd := fun u v w => fault_guard u v #[.int .i64 0, .int .i64 0] #[.int .i64 0, .int .i64 0] w
  have hte := fun w => tok_eqI 9 1 1 w
  have htg := fun u v w => tok_guard2 u v #[.int .u8 9, .int .i64 1, .int .i64 1] #[.int .u8 9, .int .i64 1, .int .i64 1] w
  have hM0 := hM.lt
  have HM := Lib.hid hM
  clear hM
  have TOK1 := True.intro
  have TOK2 := True.intro
  go_enter Tryz.func5, Tryz.ntmps5
  go_wp2_with (first
    | (go_at_call 6; clear TOK1; refine (h1 _ HM.out).mono ?_; rintro e w1 ⟨⟨g, cap, rfl, c3, c4, c5⟩, hB1⟩)
    | (refine wpList_store_rowTo rfl 26 (.tmp 2) (.tmp 8) rfl rfl w1.heap.size #[.int .i64 0, .int .i64 0] rfl rfl 26 #[.int .i64 0, .int .i64 0] (heap_alloc_new w1 _) info33 rfl (by simp [Value.oneCell']) ?_; have hX1 := setRow_heap _ w1.heap.size _ #[.int .i64 0, .int .i64 0] _ _ (heap_alloc_new w1 (.cells #[.int .i64 0, .int .i64 0] 26)); have hY1 : Below w1.heap.size w1 _ := below_setRow ((Below.refl _ w1).alloc (Nat.le_refl _) (.cells #[.int .i64 0, .int .i64 0] 26)) (Nat.le_refl _) #[.int .i64 0, .int .i64 0]; have hz1 : w1.heap.size < ((w1.alloc (.cells #[.int .i64 0, .int .i64 0] 26)).setRow w1.heap.size #[.int .i64 0, .int .i64 0]).heap.size := (Array.getElem?_eq_some_iff.1 hX1).1; generalize (w1.alloc (.cells #[.int .i64 0, .int .i64 0] 26)).setRow w1.heap.size #[.int .i64 0, .int .i64 0] = W1 at hX1 hY1 hz1 ⊢; have a0 := cell_of_row _ _ 0 _ _ _ hX1; have a1 := cell_of_row _ _ 1 _ _ _ hX1; simp only [List.getElem?_toArray, List.getElem?_cons_zero, List.getElem?_cons_succ] at a0 a1; replace c3 := (hY1.cell (p := ⟨_, _, none⟩) (cell_lt c3)).trans c3; replace c4 := (hY1.cell (p := ⟨_, _, none⟩) (cell_lt c4)).trans c4; replace c5 := (hY1.cell (p := ⟨_, _, none⟩) (cell_lt c5)).trans c5; have hBw := hB1.trans (hY1.mono hB1.size); clear hX1 hY1 hB1 hz1)
    | (go_at_call 6; refine (h2 _ (HM.out.below hBw hM0)).mono ?_; rintro e w2 ⟨⟨b, cb, rfl⟩, hB2⟩; replace c3 := (hB2.cell (p := ⟨_, _, none⟩) (cell_lt c3)).trans c3; replace c4 := (hB2.cell (p := ⟨_, _, none⟩) (cell_lt c4)).trans c4; replace c5 := (hB2.cell (p := ⟨_, _, none⟩) (cell_lt c5)).trans c5; replace a0 := (hB2.cell (p := ⟨_, _, none⟩) (cell_lt a0)).trans a0; replace a1 := (hB2.cell (p := ⟨_, _, none⟩) (cell_lt a1)).trans a1; replace hBw := below_chain hBw hB2; clear hB2)
    | (refine wpList_store_rowTo rfl 26 (.tmp 4) (.tmp 12) rfl rfl w2.heap.size #[.int .i64 0, .int .i64 0] rfl rfl 26 #[.int .i64 0, .int .i64 0] (heap_alloc_new w2 _) info33 rfl (by simp [Value.oneCell']) ?_; have hX1 := setRow_heap _ w2.heap.size _ #[.int .i64 0, .int .i64 0] _ _ (heap_alloc_new w2 (.cells #[.int .i64 0, .int .i64 0] 26)); have hY1 : Below w2.heap.size w2 _ := below_setRow ((Below.refl _ w2).alloc (Nat.le_refl _) (.cells #[.int .i64 0, .int .i64 0] 26)) (Nat.le_refl _) #[.int .i64 0, .int .i64 0]; have hz1 : w2.heap.size < ((w2.alloc (.cells #[.int .i64 0, .int .i64 0] 26)).setRow w2.heap.size #[.int .i64 0, .int .i64 0]).heap.size := (Array.getElem?_eq_some_iff.1 hX1).1; generalize (w2.alloc (.cells #[.int .i64 0, .int .i64 0] 26)).setRow w2.heap.size #[.int .i64 0, .int .i64 0] = W2 at hX1 hY1 hz1 ⊢; have b0 := cell_of_row _ _ 0 _ _ _ hX1; have b1 := cell_of_row _ _ 1 _ _ _ hX1; simp only [List.getElem?_toArray, List.getElem?_cons_zero, List.getElem?_cons_succ] at b0 b1; replace c3 := (hY1.cell (p := ⟨_, _, none⟩) (cell_lt c3)).trans c3; replace c4 := (hY1.cell (p := ⟨_, _, none⟩) (cell_lt c4)).trans c4; replace c5 := (hY1.cell (p := ⟨_, _, none⟩) (cell_lt c5)).trans c5; replace a0 := (hY1.cell (p := ⟨_, _, none⟩) (cell_lt a0)).trans a0; replace a1 := (hY1.cell (p := ⟨_, _, none⟩) (cell_lt a1)).trans a1; replace hBw := below_chain hBw hY1; clear hX1 hY1 hz1)
    | (go_at_call 14; clear TOK2; refine (h3 _).mono ?_; rintro e w3 ⟨rfl, rfl⟩)
    | (go_at_call 14; refine (h4 _).mono ?_; rintro e w3 ⟨rfl, rfl⟩))
  go_ret
  exact ⟨rfl, hBw⟩
end Go.Proofs.YtbkmlldhjchhjaaGreat
