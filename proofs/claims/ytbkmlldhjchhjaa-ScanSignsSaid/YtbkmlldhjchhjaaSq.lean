/-
  Layer 7: contract of the law's fixed answers.
-/
import Derived.Test.YtbkmlldhjchhjaaSp
namespace Go.Proofs.Ytbkmlldhjchhjaa
open Go.ChangeShapes Go.WideShapes Go.ChangeAt Go.RowKit

theorem below_chain {a b c : World} (h : Below a.heap.size a b) (k : Below b.heap.size b c) : Below a.heap.size a c := h.trans (k.mono h.size)
theorem lit1 : allAns [120, 58, 61, 49, 46, 53, 47, 47, 99] = ([(1, 0, 1), (8, 1, 3), (4, 3, 6), (11, 6, 9)], 0, 0) := by kernel_rfl
theorem lit2 : allAns [97, 32, 47, 42, 32, 98] = ([], 4, 2) := by kernel_rfl
theorem lit3 : oneAns [97, 38, 94, 61, 98] 1 = (#[.int .u8 8, .int .i64 1, .int .i64 4], 0) := by kernel_rfl
set_option maxRecDepth 100000 in
set_option maxHeartbeats 4000000 in
theorem fixed7_any (w : World) (hM : Mx w) :
    Calls Try.prog 17 #[] w fun e w' => e = .returned (.bool true) ∧ Below w.heap.size w w' := by
  have h1 : ∀ w, Mx w → Calls Try.prog 22 #[.string ⟨#[120, 58, 61, 49, 46, 53, 47, 47, 99]⟩] w fun e w' => (∃ g cap, e = .returned (.tuple #[.slice (some ⟨g, 0, none⟩) 4 cap, .agg #[.int .i64 0, .int .i64 0]]) ∧ g < w'.heap.size ∧ w'.cell? ⟨g, 3, none⟩ = some (.int .u8 8) ∧ w'.cell? ⟨g, 4, none⟩ = some (.int .i64 1) ∧ w'.cell? ⟨g, 5, none⟩ = some (.int .i64 3) ∧ w'.cell? ⟨g, 9, none⟩ = some (.int .u8 11)) ∧ Below w.heap.size w w' := fun w hM => by
    refine (all_any _ w hM).mono ?_
    rintro e w' ⟨⟨v, rfl, hO⟩, hB⟩
    refine ⟨?_, hB⟩
    rw [show (⟨#[120, 58, 61, 49, 46, 53, 47, 47, 99]⟩ : ByteArray).data.toList = [120, 58, 61, 49, 46, 53, 47, 47, 99] from rfl, lit1] at hO ⊢
    obtain ⟨g, cap, rfl, _, hg⟩ := World.ownsRow.form hO (by decide)
    refine ⟨g, cap, rfl, hg, ?_, ?_, ?_, ?_⟩
    all_goals exact (World.ownsRow.cellAt hO _ (by decide)).trans rfl
  have h2 : ∀ w, Mx w → Calls Try.prog 20 #[.string ⟨#[97, 38, 94, 61, 98]⟩, .int .i64 1] w fun e w' => e = .returned (.tuple #[.agg #[.int .u8 8, .int .i64 1, .int .i64 4], .int .i64 0]) ∧ Below w.heap.size w w' := fun w hM => by
    have h := one_any ⟨#[97, 38, 94, 61, 98]⟩ (by decide) 1 w hM
    rw [show (⟨#[97, 38, 94, 61, 98]⟩ : ByteArray).data.toList = [97, 38, 94, 61, 98] from rfl, lit3] at h
    exact h
  have h3 : ∀ w, Mx w → Calls Try.prog 22 #[.string ⟨#[97, 32, 47, 42, 32, 98]⟩] w fun e w' => (∃ v, e = .returned (.tuple #[v, .agg #[.int .i64 4, .int .i64 2]])) ∧ Below w.heap.size w w' := fun w hM => by
    refine (all_any _ w hM).mono ?_
    rintro e w' ⟨⟨v, rfl, hO⟩, hB⟩
    refine ⟨⟨v, ?_⟩, hB⟩
    rw [show (⟨#[97, 32, 47, 42, 32, 98]⟩ : ByteArray).data.toList = [97, 32, 47, 42, 32, 98] from rfl, lit2]
  have hM0 := hM.lt
  have HM := Lib.hid hM
  clear hM
  have TOK1 := True.intro
  go_enter Try.func17, Try.ntmps17
  go_wp2_with (first
    | (go_at_call 22; clear TOK1; refine (h1 _ HM.out).mono ?_; rintro e w1 ⟨⟨g, cap, rfl, hg1, c3, c4, c5, c9⟩, hB1⟩; have C3 := Lib.hid c3; have C4 := Lib.hid c4; have C5 := Lib.hid c5; have C9 := Lib.hid c9; clear c3 c4 c5 c9)
    | (go_at_call 20; refine (h2 _ (HM.out.below (below_chain hB1 hY1) hM0)).mono ?_; rintro e w2 ⟨rfl, hB3⟩)
    | (go_at_call 22; refine (h3 _ (HM.out.below (below_chain hB1 (below_chain hY1 (below_chain hB3 hY2))) hM0)).mono ?_; rintro e w3 ⟨⟨v, rfl⟩, hB5⟩)
    | (refine wpList_store_rowTo rfl 33 (.tmp 2) (.tmp 10) rfl rfl w1.heap.size #[.int .i64 0, .int .i64 0] rfl rfl 33 #[.int .i64 0, .int .i64 0] (heap_alloc_new w1 _) info33 rfl (by simp [Value.oneCell']) ?_; have hX1 := setRow_heap _ w1.heap.size _ #[.int .i64 0, .int .i64 0] _ _ (heap_alloc_new w1 (.cells #[.int .i64 0, .int .i64 0] 33)); have hY1 : Below w1.heap.size w1 _ := below_setRow ((Below.refl _ w1).alloc (Nat.le_refl _) (.cells #[.int .i64 0, .int .i64 0] 33)) (Nat.le_refl _) #[.int .i64 0, .int .i64 0]; have hz1 : w1.heap.size < ((w1.alloc (.cells #[.int .i64 0, .int .i64 0] 33)).setRow w1.heap.size #[.int .i64 0, .int .i64 0]).heap.size := (Array.getElem?_eq_some_iff.1 hX1).1; generalize (w1.alloc (.cells #[.int .i64 0, .int .i64 0] 33)).setRow w1.heap.size #[.int .i64 0, .int .i64 0] = W1 at hX1 hY1 hz1 ⊢; have HX1 := Lib.hid hX1; clear hX1)
    | (refine wpList_store_rowTo rfl 26 (.tmp 3) (.tmp 13) rfl rfl w2.heap.size #[.int .u8 8, .int .i64 1, .int .i64 4] rfl rfl 26 #[.int .u8 0, .int .i64 0, .int .i64 0] (heap_alloc_new w2 _) info26 rfl (by simp [Value.oneCell']) ?_; have hX2 := setRow_heap _ w2.heap.size _ #[.int .u8 8, .int .i64 1, .int .i64 4] _ _ (heap_alloc_new w2 (.cells #[.int .u8 0, .int .i64 0, .int .i64 0] 26)); have hY2 : Below w2.heap.size w2 _ := below_setRow ((Below.refl _ w2).alloc (Nat.le_refl _) (.cells #[.int .u8 0, .int .i64 0, .int .i64 0] 26)) (Nat.le_refl _) #[.int .u8 8, .int .i64 1, .int .i64 4]; have hz2 : w2.heap.size < ((w2.alloc (.cells #[.int .u8 0, .int .i64 0, .int .i64 0] 26)).setRow w2.heap.size #[.int .u8 8, .int .i64 1, .int .i64 4]).heap.size := (Array.getElem?_eq_some_iff.1 hX2).1; generalize (w2.alloc (.cells #[.int .u8 0, .int .i64 0, .int .i64 0] 26)).setRow w2.heap.size #[.int .u8 8, .int .i64 1, .int .i64 4] = W2 at hX2 hY2 hz2 ⊢; have HX2 := Lib.hid hX2; clear hX2)
    | (refine wpList_store_rowTo rfl 33 (.tmp 6) (.tmp 18) rfl rfl w3.heap.size #[.int .i64 4, .int .i64 2] rfl rfl 33 #[.int .i64 0, .int .i64 0] (heap_alloc_new w3 _) info33 rfl (by simp [Value.oneCell']) ?_; have hX3 := setRow_heap _ w3.heap.size _ #[.int .i64 4, .int .i64 2] _ _ (heap_alloc_new w3 (.cells #[.int .i64 0, .int .i64 0] 33)); have hY3 : Below w3.heap.size w3 _ := below_setRow ((Below.refl _ w3).alloc (Nat.le_refl _) (.cells #[.int .i64 0, .int .i64 0] 33)) (Nat.le_refl _) #[.int .i64 4, .int .i64 2]; have hz3 : w3.heap.size < ((w3.alloc (.cells #[.int .i64 0, .int .i64 0] 33)).setRow w3.heap.size #[.int .i64 4, .int .i64 2]).heap.size := (Array.getElem?_eq_some_iff.1 hX3).1; generalize (w3.alloc (.cells #[.int .i64 0, .int .i64 0] 33)).setRow w3.heap.size #[.int .i64 4, .int .i64 2] = W3 at hX3 hY3 hz3 ⊢; have HX3 := Lib.hid hX3; clear hX3; have hBc := below_chain hB5 hY3; have hBb := below_chain hB3 (below_chain hY2 hBc); have hBa := below_chain hY1 hBb; have hBw := below_chain hB1 hBa; have R1 := (hBb.block w1.heap.size hz1).trans HX1.out; have R2 := (hBc.block w2.heap.size hz2).trans HX2.out; have R3 := HX3.out; have a0 := cell_of_row _ _ 0 _ _ _ R1; have a1 := cell_of_row _ _ 1 _ _ _ R1; have b0 := cell_of_row _ _ 0 _ _ _ R2; have b1 := cell_of_row _ _ 1 _ _ _ R2; have b2 := cell_of_row _ _ 2 _ _ _ R2; have d0 := cell_of_row _ _ 0 _ _ _ R3; have d1 := cell_of_row _ _ 1 _ _ _ R3; simp only [List.getElem?_toArray, List.getElem?_cons_zero, List.getElem?_cons_succ] at a0 a1 b0 b1 b2 d0 d1; have c3 := (hBa.cell (p := ⟨g, 3, none⟩) hg1).trans C3.out; have c4 := (hBa.cell (p := ⟨g, 4, none⟩) hg1).trans C4.out; have c5 := (hBa.cell (p := ⟨g, 5, none⟩) hg1).trans C5.out; have c9 := (hBa.cell (p := ⟨g, 9, none⟩) hg1).trans C9.out; clear R1 R2 R3 hBa hBb hBc hY1 hY2 hY3 hB1 hB3 hB5 HX1 HX2 HX3 C3 C4 C5 C9 hz1 hz2 hz3))
  go_ret
  exact ⟨rfl, hBw⟩
end Go.Proofs.Ytbkmlldhjchhjaa
