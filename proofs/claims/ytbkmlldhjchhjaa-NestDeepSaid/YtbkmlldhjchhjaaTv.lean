/-
  Layer 9: contract of the law's repeat; the law NestDeep.
-/
import Derived.Test.YtbkmlldhjchhjaaTt
import Derived.Test.YtbkmlldhjchhjaaTu
namespace Go.Proofs.Ytbkmlldhjchhjaa
open Go.ChangeShapes Go.WideShapes Go.ChangeAt Go.RowKit

set_option maxRecDepth 100000 in
set_option maxHeartbeats 4000000 in
theorem rep_any (s : ByteArray) (o : UInt8) (hs : s.data.toList = [o]) (n : Nat) (hn : n ≤ 1000) (w : World) :
    Calls Try.prog 36 #[.string s, .int .i64 n] w fun e w' => (∃ R : ByteArray, e = .returned (.string R) ∧ R.data.toList = List.replicate n o) ∧ Below w.heap.size w w' := by
  have hsz : s.size = 1 := by rw [← ba_list, hs]; rfl
  go_enter Try.func36, Try.ntmps36
  go_wp2
  go_loopw [5, 6] (fun tv kv wr => ∃ (k : Nat) (T : ByteArray), k ≤ n ∧ kv = .int .i64 k ∧ tv = .string T ∧ T.data.toList = List.replicate k o ∧ Below w.heap.size w wr) (fun tv kv _ => n - (intOf kv).toNat)
  case atStart => exact ⟨0, ByteArray.empty, by omega, rfl, rfl, rfl, Below.refl _ _⟩
  case round =>
    obtain ⟨k, T, hk, rfl, rfl, hT, hB⟩ := hrel
    by_cases hlt : k < n
    · have j1 : (k : Int) < n := by omega
      have hTz : T.size = k := by rw [← ba_list, hT, List.length_replicate]
      have ha := fun w => run_string_add_sum (P := Try.prog) w T s (by rw [hTz, hsz]; omega)
      have HT : (T ++ s).data.toList = List.replicate (k + 1) o := by
        rw [ByteArray.data_append, Array.toList_append, hT, hs, List.replicate_succ']
      have HTS := Lib.hid HT
      clear HT hT hTz hs hsz
      go_wp2
      go_roundw
      case rel => exact ⟨k + 1, _, by omega, by go_num, rfl, HTS.out, hB⟩
      case measure => simp [intOf]; omega
    · obtain rfl : k = n := by omega
      go_wp2
      go_ret
      exact ⟨⟨T, rfl, hT⟩, hB⟩
/-- what the two calls answer, by how many brackets there are -/
def DeepC (k : Nat) (m e f e2 f2 : Int) : Prop := (100 < k ∧ m = 0 ∧ e = 6 ∧ f = 100 ∧ e2 = 6 ∧ f2 = 101) ∨ (k = 0 ∧ m = 0 ∧ e = 0 ∧ f = 0 ∧ e2 = 0 ∧ f2 = 0) ∨ (0 < k ∧ k ≤ 100 ∧ m = k ∧ e = 0 ∧ f = 0 ∧ e2 = 5 ∧ f2 = k)
theorem deep_calls {o c : UInt8} (h : pairB o c) (k : Nat) (hk : k ≤ 1000) : ∃ m e f e2 f2 : Int, DeepC k m e f e2 f2 ∧
    (∀ (S : ByteArray) (w : World), S.data.toList = opA k o c → Mx w → Calls Try.prog 35 #[.string S] w fun x w' => x = .returned (.tuple #[.int .i64 m, .agg #[.int .i64 e, .int .i64 f]]) ∧ Below w.heap.size w w') ∧
    (∀ (S : ByteArray) (w : World), S.data.toList = opB k o → Mx w → Calls Try.prog 33 #[.string S] w fun x w' => (∃ a la ca b lb cb, x = .returned (.tuple #[.slice a la ca, .slice b lb cb, .agg #[.int .i64 e2, .int .i64 f2]])) ∧ Below w.heap.size w w') := by
  have hA := deep_a h k hk
  have hB := deep_b h k hk
  refine ⟨((nestAns (opA k o c)).2.2.1 : Int), (nestAns (opA k o c)).2.2.2.1, (nestAns (opA k o c)).2.2.2.2, (nestAns (opB k o)).2.2.2.1, (nestAns (opB k o)).2.2.2.2, ?_, fun S w hS hM => ?_, fun S w hS hM => ?_⟩
  rotate_left
  · refine (depth_any S w hM).mono ?_
    rintro e w' ⟨rfl, hb⟩
    rw [hS]
    exact ⟨rfl, hb⟩
  · refine (nof_any S w hM).mono ?_
    rintro e w' ⟨⟨a, ca, b, cb, rfl, _, _, _, _⟩, hb⟩
    rw [hS]
    exact ⟨⟨a, _, ca, b, _, cb, rfl⟩, hb⟩
  rw [hA, hB]
  by_cases h1 : 100 < k
  · rw [if_pos h1, if_pos h1]
    exact .inl ⟨h1, rfl, rfl, rfl, rfl, rfl⟩
  by_cases h2 : k = 0
  · rw [if_neg h1, if_neg h1, if_pos h2]
    exact .inr (.inl ⟨h2, by rw [h2]; rfl, rfl, rfl, rfl, rfl⟩)
  · rw [if_neg h1, if_neg h1, if_neg h2]
    exact .inr (.inr ⟨by omega, by omega, rfl, rfl, rfl, rfl, rfl⟩)
set_option maxRecDepth 100000 in
set_option maxHeartbeats 8000000 in
theorem deep_walk0 (a b : Int) (k : Nat) (hk : k ≤ 129) (hak : a % 130 = k) (ha0 : 0 ≤ a) (ha1 : a < 256) (hb0 : 0 ≤ b) (hb1 : b < 256) (hbj : b % 3 = 0) (w : World) (hM : Mx w) :
    Calls Try.prog 16 #[.int .u8 a, .int .u8 b] w fun e w' => e = .returned (.bool true) ∧ Below w.heap.size w w' := by
  have hM0 := hM.lt
  have HM := Lib.hid hM
  clear hM
  obtain ⟨m, e, f, e2, f2, hD, hA, hB⟩ := deep_calls (o := 40) (c := 41) (by exact .inl ⟨rfl, rfl⟩) k (by omega)
  have HD := Lib.hid hD
  have hr := fun n hn => rep_any ⟨#[40]⟩ 40 rfl n hn
  have hs := fun n hn => rep_any ⟨#[41]⟩ 41 rfl n hn
  have HK := Lib.hid hk
  clear hD hk
  have c0 : (w.alloc (.cells #[.string ⟨#[40]⟩, .string ⟨#[91]⟩, .string ⟨#[123]⟩] 9)).cell? ⟨w.heap.size, (b % 3).toNat, none⟩ = some (.string ⟨#[40]⟩) := by
    rw [hbj]
    exact cell_of_row _ _ _ _ _ _ (heap_alloc_new w _)
  have TOK1 := True.intro
  have TOK2 := True.intro
  go_enter Try.func16, Try.ntmps16
  go_wp2_with (first
    | (go_at_call 36; clear TOK1; refine (hr k (by have := HK.out; omega) _).mono ?_; rintro x w1 ⟨⟨R1, rfl, hR1⟩, hB1⟩; have hBw : Below w.heap.size w w1 := (((Below.refl _ w).alloc (Nat.le_refl _) _).alloc (by simp) _).trans (hB1.mono (by simp; omega)); have HR1 := Lib.hid hR1; have hz1 : R1.size = k := (by rw [← ba_list, hR1, List.length_replicate]); have ha1 := fun w => run_string_add_sum (P := Try.prog) w R1 ⟨#[120]⟩ (by rw [hz1]; show _ + 1 ≤ _; have := HK.out; omega); clear hB1 hR1)
    | (go_at_call 36; clear TOK2; refine (hs k (by have := HK.out; omega) _).mono ?_; rintro x w2 ⟨⟨R2, rfl, hR2⟩, hB2⟩; replace hBw := below_chain hBw hB2; have hz2 : R2.size = k := (by rw [← ba_list, hR2, List.length_replicate]); have ha2 := fun w => run_string_add_sum (P := Try.prog) w (R1 ++ ⟨#[120]⟩) R2 (by rw [ByteArray.size_append, hz1, hz2]; show _ + 1 + _ ≤ _; have := HK.out; omega); have HT := Lib.hid (show (R1 ++ ⟨#[120]⟩ ++ R2).data.toList = opA k 40 41 by rw [ByteArray.data_append, Array.toList_append, ByteArray.data_append, Array.toList_append, HR1.out, hR2, List.append_assoc]; rfl); clear hB2 hR2)
    | (go_at_call 35; refine (hA _ _ HT.out (HM.out.below hBw hM0)).mono ?_; rintro x w3 ⟨rfl, hB3⟩; replace hBw := below_chain hBw hB3; clear hB3)
    | (refine wpList_store_rowTo rfl 33 (.tmp 9) (.tmp 37) rfl rfl w3.heap.size #[.int .i64 e, .int .i64 f] rfl rfl 33 #[.int .i64 0, .int .i64 0] (heap_alloc_new w3 _) info33 rfl (by simp [Value.oneCell']) ?_; have hX1 := setRow_heap _ w3.heap.size _ #[.int .i64 e, .int .i64 f] _ _ (heap_alloc_new w3 (.cells #[.int .i64 0, .int .i64 0] 33)); have hY1 : Below w3.heap.size w3 _ := below_setRow ((Below.refl _ w3).alloc (Nat.le_refl _) (.cells #[.int .i64 0, .int .i64 0] 33)) (Nat.le_refl _) #[.int .i64 e, .int .i64 f]; have hz1 : w3.heap.size < ((w3.alloc (.cells #[.int .i64 0, .int .i64 0] 33)).setRow w3.heap.size #[.int .i64 e, .int .i64 f]).heap.size := (Array.getElem?_eq_some_iff.1 hX1).1; generalize (w3.alloc (.cells #[.int .i64 0, .int .i64 0] 33)).setRow w3.heap.size #[.int .i64 e, .int .i64 f] = W3 at hX1 hY1 hz1 ⊢; have a0 := cell_of_row _ _ 0 _ _ _ hX1; have a1 := cell_of_row _ _ 1 _ _ _ hX1; simp only [List.getElem?_toArray, List.getElem?_cons_zero, List.getElem?_cons_succ] at a0 a1; replace hBw := below_chain hBw hY1; clear hX1 hY1 hz1)
    | (go_at_call 36; refine (hr k (by have := HK.out; omega) _).mono ?_; rintro x w4 ⟨⟨R3, rfl, hR3⟩, hB2⟩; replace a0 := (hB2.cell (p := ⟨_, _, none⟩) (cell_lt a0)).trans a0; replace a1 := (hB2.cell (p := ⟨_, _, none⟩) (cell_lt a1)).trans a1; replace hBw := below_chain hBw hB2; have hz3 : R3.size = k := (by rw [← ba_list, hR3, List.length_replicate]); have ha3 := fun w => run_string_add_sum (P := Try.prog) w ⟨#[97]⟩ R3 (by rw [hz3]; show 1 + _ ≤ _; have := HK.out; omega); have HT3 := Lib.hid (show (⟨#[97]⟩ ++ R3 : ByteArray).data.toList = opB k 40 by rw [ByteArray.data_append, Array.toList_append, hR3]; rfl); clear hB2 hR3)
    | (go_at_call 33; refine (hB _ _ HT3.out (HM.out.below hBw hM0)).mono ?_; rintro x w5 ⟨⟨aa, la, ca, ab, lb, cb, rfl⟩, hB2⟩; replace a0 := (hB2.cell (p := ⟨_, _, none⟩) (cell_lt a0)).trans a0; replace a1 := (hB2.cell (p := ⟨_, _, none⟩) (cell_lt a1)).trans a1; replace hBw := below_chain hBw hB2; clear hB2)
    | (refine wpList_store_rowTo rfl 33 (.tmp 12) (.tmp 46) rfl rfl w5.heap.size #[.int .i64 e2, .int .i64 f2] rfl rfl 33 #[.int .i64 0, .int .i64 0] (heap_alloc_new w5 _) info33 rfl (by simp [Value.oneCell']) ?_; have hX1 := setRow_heap _ w5.heap.size _ #[.int .i64 e2, .int .i64 f2] _ _ (heap_alloc_new w5 (.cells #[.int .i64 0, .int .i64 0] 33)); have hY1 : Below w5.heap.size w5 _ := below_setRow ((Below.refl _ w5).alloc (Nat.le_refl _) (.cells #[.int .i64 0, .int .i64 0] 33)) (Nat.le_refl _) #[.int .i64 e2, .int .i64 f2]; have hz1 : w5.heap.size < ((w5.alloc (.cells #[.int .i64 0, .int .i64 0] 33)).setRow w5.heap.size #[.int .i64 e2, .int .i64 f2]).heap.size := (Array.getElem?_eq_some_iff.1 hX1).1; generalize (w5.alloc (.cells #[.int .i64 0, .int .i64 0] 33)).setRow w5.heap.size #[.int .i64 e2, .int .i64 f2] = W5 at hX1 hY1 hz1 ⊢; have b0 := cell_of_row _ _ 0 _ _ _ hX1; have b1 := cell_of_row _ _ 1 _ _ _ hX1; simp only [List.getElem?_toArray, List.getElem?_cons_zero, List.getElem?_cons_succ] at b0 b1; replace a0 := (hY1.cell (p := ⟨_, _, none⟩) (cell_lt a0)).trans a0; replace a1 := (hY1.cell (p := ⟨_, _, none⟩) (cell_lt a1)).trans a1; replace hBw := below_chain hBw hY1; clear hX1 hY1 hz1))
  all_goals (refine (fixed9_any _ (HM.out.below hBw hM0)).mono ?_; rintro x w6 ⟨rfl, hB2⟩; replace a0 := (hB2.cell (p := ⟨_, _, none⟩) (cell_lt a0)).trans a0; replace a1 := (hB2.cell (p := ⟨_, _, none⟩) (cell_lt a1)).trans a1; replace b0 := (hB2.cell (p := ⟨_, _, none⟩) (cell_lt b0)).trans b0; replace b1 := (hB2.cell (p := ⟨_, _, none⟩) (cell_lt b1)).trans b1; replace hBw := below_chain hBw hB2; clear hB2)
  all_goals (have hd := HD.out; clear HD hA hB hr hs; rcases hd with ⟨h1, rfl, rfl, rfl, rfl, rfl⟩ | ⟨h1, rfl, rfl, rfl, rfl, rfl⟩ | ⟨h1, h2, rfl, rfl, rfl, rfl, rfl⟩)
  all_goals first
    | (exfalso; omega)
    | (exfalso; have hz := ‹((k : Int) == 0) = true›; simp at hz; omega)
    | (exfalso; have hz := ‹((k : Int) == 0) = false›; simp at hz; omega)
    | skip
  all_goals (
    have q1 := fun w => fault_eq 0 0 w
    have q2 := fun w => fault_eq 6 100 w
    have q3 := fun w => fault_eq 6 101 w
    have q4 := fun (y : Int) w => fault_eq 5 y w
    have qg := fun u v xs ys w => fault_guard u v xs ys w)
  all_goals ((try dsimp only); go_wp2)
  all_goals first | (go_ret; exact ⟨rfl, hBw⟩) | trace_state
set_option maxRecDepth 100000 in
set_option maxHeartbeats 8000000 in
theorem deep_walk1 (a b : Int) (k : Nat) (hk : k ≤ 129) (hak : a % 130 = k) (ha0 : 0 ≤ a) (ha1 : a < 256) (hb0 : 0 ≤ b) (hb1 : b < 256) (hbj : b % 3 = 1) (w : World) (hM : Mx w) :
    Calls Try.prog 16 #[.int .u8 a, .int .u8 b] w fun e w' => e = .returned (.bool true) ∧ Below w.heap.size w w' := by
  have hM0 := hM.lt
  have HM := Lib.hid hM
  clear hM
  obtain ⟨m, e, f, e2, f2, hD, hA, hB⟩ := deep_calls (o := 91) (c := 93) (by exact .inr (.inl ⟨rfl, rfl⟩)) k (by omega)
  have HD := Lib.hid hD
  have hr := fun n hn => rep_any ⟨#[91]⟩ 91 rfl n hn
  have hs := fun n hn => rep_any ⟨#[93]⟩ 93 rfl n hn
  have HK := Lib.hid hk
  clear hD hk
  have c0 : (w.alloc (.cells #[.string ⟨#[40]⟩, .string ⟨#[91]⟩, .string ⟨#[123]⟩] 9)).cell? ⟨w.heap.size, (b % 3).toNat, none⟩ = some (.string ⟨#[91]⟩) := by
    rw [hbj]
    exact cell_of_row _ _ _ _ _ _ (heap_alloc_new w _)
  have TOK1 := True.intro
  have TOK2 := True.intro
  go_enter Try.func16, Try.ntmps16
  go_wp2_with (first
    | (go_at_call 36; clear TOK1; refine (hr k (by have := HK.out; omega) _).mono ?_; rintro x w1 ⟨⟨R1, rfl, hR1⟩, hB1⟩; have hBw : Below w.heap.size w w1 := (((Below.refl _ w).alloc (Nat.le_refl _) _).alloc (by simp) _).trans (hB1.mono (by simp; omega)); have HR1 := Lib.hid hR1; have hz1 : R1.size = k := (by rw [← ba_list, hR1, List.length_replicate]); have ha1 := fun w => run_string_add_sum (P := Try.prog) w R1 ⟨#[120]⟩ (by rw [hz1]; show _ + 1 ≤ _; have := HK.out; omega); clear hB1 hR1)
    | (go_at_call 36; clear TOK2; refine (hs k (by have := HK.out; omega) _).mono ?_; rintro x w2 ⟨⟨R2, rfl, hR2⟩, hB2⟩; replace hBw := below_chain hBw hB2; have hz2 : R2.size = k := (by rw [← ba_list, hR2, List.length_replicate]); have ha2 := fun w => run_string_add_sum (P := Try.prog) w (R1 ++ ⟨#[120]⟩) R2 (by rw [ByteArray.size_append, hz1, hz2]; show _ + 1 + _ ≤ _; have := HK.out; omega); have HT := Lib.hid (show (R1 ++ ⟨#[120]⟩ ++ R2).data.toList = opA k 91 93 by rw [ByteArray.data_append, Array.toList_append, ByteArray.data_append, Array.toList_append, HR1.out, hR2, List.append_assoc]; rfl); clear hB2 hR2)
    | (go_at_call 35; refine (hA _ _ HT.out (HM.out.below hBw hM0)).mono ?_; rintro x w3 ⟨rfl, hB3⟩; replace hBw := below_chain hBw hB3; clear hB3)
    | (refine wpList_store_rowTo rfl 33 (.tmp 9) (.tmp 37) rfl rfl w3.heap.size #[.int .i64 e, .int .i64 f] rfl rfl 33 #[.int .i64 0, .int .i64 0] (heap_alloc_new w3 _) info33 rfl (by simp [Value.oneCell']) ?_; have hX1 := setRow_heap _ w3.heap.size _ #[.int .i64 e, .int .i64 f] _ _ (heap_alloc_new w3 (.cells #[.int .i64 0, .int .i64 0] 33)); have hY1 : Below w3.heap.size w3 _ := below_setRow ((Below.refl _ w3).alloc (Nat.le_refl _) (.cells #[.int .i64 0, .int .i64 0] 33)) (Nat.le_refl _) #[.int .i64 e, .int .i64 f]; have hz1 : w3.heap.size < ((w3.alloc (.cells #[.int .i64 0, .int .i64 0] 33)).setRow w3.heap.size #[.int .i64 e, .int .i64 f]).heap.size := (Array.getElem?_eq_some_iff.1 hX1).1; generalize (w3.alloc (.cells #[.int .i64 0, .int .i64 0] 33)).setRow w3.heap.size #[.int .i64 e, .int .i64 f] = W3 at hX1 hY1 hz1 ⊢; have a0 := cell_of_row _ _ 0 _ _ _ hX1; have a1 := cell_of_row _ _ 1 _ _ _ hX1; simp only [List.getElem?_toArray, List.getElem?_cons_zero, List.getElem?_cons_succ] at a0 a1; replace hBw := below_chain hBw hY1; clear hX1 hY1 hz1)
    | (go_at_call 36; refine (hr k (by have := HK.out; omega) _).mono ?_; rintro x w4 ⟨⟨R3, rfl, hR3⟩, hB2⟩; replace a0 := (hB2.cell (p := ⟨_, _, none⟩) (cell_lt a0)).trans a0; replace a1 := (hB2.cell (p := ⟨_, _, none⟩) (cell_lt a1)).trans a1; replace hBw := below_chain hBw hB2; have hz3 : R3.size = k := (by rw [← ba_list, hR3, List.length_replicate]); have ha3 := fun w => run_string_add_sum (P := Try.prog) w ⟨#[97]⟩ R3 (by rw [hz3]; show 1 + _ ≤ _; have := HK.out; omega); have HT3 := Lib.hid (show (⟨#[97]⟩ ++ R3 : ByteArray).data.toList = opB k 91 by rw [ByteArray.data_append, Array.toList_append, hR3]; rfl); clear hB2 hR3)
    | (go_at_call 33; refine (hB _ _ HT3.out (HM.out.below hBw hM0)).mono ?_; rintro x w5 ⟨⟨aa, la, ca, ab, lb, cb, rfl⟩, hB2⟩; replace a0 := (hB2.cell (p := ⟨_, _, none⟩) (cell_lt a0)).trans a0; replace a1 := (hB2.cell (p := ⟨_, _, none⟩) (cell_lt a1)).trans a1; replace hBw := below_chain hBw hB2; clear hB2)
    | (refine wpList_store_rowTo rfl 33 (.tmp 12) (.tmp 46) rfl rfl w5.heap.size #[.int .i64 e2, .int .i64 f2] rfl rfl 33 #[.int .i64 0, .int .i64 0] (heap_alloc_new w5 _) info33 rfl (by simp [Value.oneCell']) ?_; have hX1 := setRow_heap _ w5.heap.size _ #[.int .i64 e2, .int .i64 f2] _ _ (heap_alloc_new w5 (.cells #[.int .i64 0, .int .i64 0] 33)); have hY1 : Below w5.heap.size w5 _ := below_setRow ((Below.refl _ w5).alloc (Nat.le_refl _) (.cells #[.int .i64 0, .int .i64 0] 33)) (Nat.le_refl _) #[.int .i64 e2, .int .i64 f2]; have hz1 : w5.heap.size < ((w5.alloc (.cells #[.int .i64 0, .int .i64 0] 33)).setRow w5.heap.size #[.int .i64 e2, .int .i64 f2]).heap.size := (Array.getElem?_eq_some_iff.1 hX1).1; generalize (w5.alloc (.cells #[.int .i64 0, .int .i64 0] 33)).setRow w5.heap.size #[.int .i64 e2, .int .i64 f2] = W5 at hX1 hY1 hz1 ⊢; have b0 := cell_of_row _ _ 0 _ _ _ hX1; have b1 := cell_of_row _ _ 1 _ _ _ hX1; simp only [List.getElem?_toArray, List.getElem?_cons_zero, List.getElem?_cons_succ] at b0 b1; replace a0 := (hY1.cell (p := ⟨_, _, none⟩) (cell_lt a0)).trans a0; replace a1 := (hY1.cell (p := ⟨_, _, none⟩) (cell_lt a1)).trans a1; replace hBw := below_chain hBw hY1; clear hX1 hY1 hz1))
  all_goals (refine (fixed9_any _ (HM.out.below hBw hM0)).mono ?_; rintro x w6 ⟨rfl, hB2⟩; replace a0 := (hB2.cell (p := ⟨_, _, none⟩) (cell_lt a0)).trans a0; replace a1 := (hB2.cell (p := ⟨_, _, none⟩) (cell_lt a1)).trans a1; replace b0 := (hB2.cell (p := ⟨_, _, none⟩) (cell_lt b0)).trans b0; replace b1 := (hB2.cell (p := ⟨_, _, none⟩) (cell_lt b1)).trans b1; replace hBw := below_chain hBw hB2; clear hB2)
  all_goals (have hd := HD.out; clear HD hA hB hr hs; rcases hd with ⟨h1, rfl, rfl, rfl, rfl, rfl⟩ | ⟨h1, rfl, rfl, rfl, rfl, rfl⟩ | ⟨h1, h2, rfl, rfl, rfl, rfl, rfl⟩)
  all_goals first
    | (exfalso; omega)
    | (exfalso; have hz := ‹((k : Int) == 0) = true›; simp at hz; omega)
    | (exfalso; have hz := ‹((k : Int) == 0) = false›; simp at hz; omega)
    | skip
  all_goals (
    have q1 := fun w => fault_eq 0 0 w
    have q2 := fun w => fault_eq 6 100 w
    have q3 := fun w => fault_eq 6 101 w
    have q4 := fun (y : Int) w => fault_eq 5 y w
    have qg := fun u v xs ys w => fault_guard u v xs ys w)
  all_goals ((try dsimp only); go_wp2)
  all_goals first | (go_ret; exact ⟨rfl, hBw⟩) | trace_state
set_option maxRecDepth 100000 in
set_option maxHeartbeats 8000000 in
theorem deep_walk2 (a b : Int) (k : Nat) (hk : k ≤ 129) (hak : a % 130 = k) (ha0 : 0 ≤ a) (ha1 : a < 256) (hb0 : 0 ≤ b) (hb1 : b < 256) (hbj : b % 3 = 2) (w : World) (hM : Mx w) :
    Calls Try.prog 16 #[.int .u8 a, .int .u8 b] w fun e w' => e = .returned (.bool true) ∧ Below w.heap.size w w' := by
  have hM0 := hM.lt
  have HM := Lib.hid hM
  clear hM
  obtain ⟨m, e, f, e2, f2, hD, hA, hB⟩ := deep_calls (o := 123) (c := 125) (by exact .inr (.inr ⟨rfl, rfl⟩)) k (by omega)
  have HD := Lib.hid hD
  have hr := fun n hn => rep_any ⟨#[123]⟩ 123 rfl n hn
  have hs := fun n hn => rep_any ⟨#[125]⟩ 125 rfl n hn
  have HK := Lib.hid hk
  clear hD hk
  have c0 : (w.alloc (.cells #[.string ⟨#[40]⟩, .string ⟨#[91]⟩, .string ⟨#[123]⟩] 9)).cell? ⟨w.heap.size, (b % 3).toNat, none⟩ = some (.string ⟨#[123]⟩) := by
    rw [hbj]
    exact cell_of_row _ _ _ _ _ _ (heap_alloc_new w _)
  have TOK1 := True.intro
  have TOK2 := True.intro
  go_enter Try.func16, Try.ntmps16
  go_wp2_with (first
    | (go_at_call 36; clear TOK1; refine (hr k (by have := HK.out; omega) _).mono ?_; rintro x w1 ⟨⟨R1, rfl, hR1⟩, hB1⟩; have hBw : Below w.heap.size w w1 := (((Below.refl _ w).alloc (Nat.le_refl _) _).alloc (by simp) _).trans (hB1.mono (by simp; omega)); have HR1 := Lib.hid hR1; have hz1 : R1.size = k := (by rw [← ba_list, hR1, List.length_replicate]); have ha1 := fun w => run_string_add_sum (P := Try.prog) w R1 ⟨#[120]⟩ (by rw [hz1]; show _ + 1 ≤ _; have := HK.out; omega); clear hB1 hR1)
    | (go_at_call 36; clear TOK2; refine (hs k (by have := HK.out; omega) _).mono ?_; rintro x w2 ⟨⟨R2, rfl, hR2⟩, hB2⟩; replace hBw := below_chain hBw hB2; have hz2 : R2.size = k := (by rw [← ba_list, hR2, List.length_replicate]); have ha2 := fun w => run_string_add_sum (P := Try.prog) w (R1 ++ ⟨#[120]⟩) R2 (by rw [ByteArray.size_append, hz1, hz2]; show _ + 1 + _ ≤ _; have := HK.out; omega); have HT := Lib.hid (show (R1 ++ ⟨#[120]⟩ ++ R2).data.toList = opA k 123 125 by rw [ByteArray.data_append, Array.toList_append, ByteArray.data_append, Array.toList_append, HR1.out, hR2, List.append_assoc]; rfl); clear hB2 hR2)
    | (go_at_call 35; refine (hA _ _ HT.out (HM.out.below hBw hM0)).mono ?_; rintro x w3 ⟨rfl, hB3⟩; replace hBw := below_chain hBw hB3; clear hB3)
    | (refine wpList_store_rowTo rfl 33 (.tmp 9) (.tmp 37) rfl rfl w3.heap.size #[.int .i64 e, .int .i64 f] rfl rfl 33 #[.int .i64 0, .int .i64 0] (heap_alloc_new w3 _) info33 rfl (by simp [Value.oneCell']) ?_; have hX1 := setRow_heap _ w3.heap.size _ #[.int .i64 e, .int .i64 f] _ _ (heap_alloc_new w3 (.cells #[.int .i64 0, .int .i64 0] 33)); have hY1 : Below w3.heap.size w3 _ := below_setRow ((Below.refl _ w3).alloc (Nat.le_refl _) (.cells #[.int .i64 0, .int .i64 0] 33)) (Nat.le_refl _) #[.int .i64 e, .int .i64 f]; have hz1 : w3.heap.size < ((w3.alloc (.cells #[.int .i64 0, .int .i64 0] 33)).setRow w3.heap.size #[.int .i64 e, .int .i64 f]).heap.size := (Array.getElem?_eq_some_iff.1 hX1).1; generalize (w3.alloc (.cells #[.int .i64 0, .int .i64 0] 33)).setRow w3.heap.size #[.int .i64 e, .int .i64 f] = W3 at hX1 hY1 hz1 ⊢; have a0 := cell_of_row _ _ 0 _ _ _ hX1; have a1 := cell_of_row _ _ 1 _ _ _ hX1; simp only [List.getElem?_toArray, List.getElem?_cons_zero, List.getElem?_cons_succ] at a0 a1; replace hBw := below_chain hBw hY1; clear hX1 hY1 hz1)
    | (go_at_call 36; refine (hr k (by have := HK.out; omega) _).mono ?_; rintro x w4 ⟨⟨R3, rfl, hR3⟩, hB2⟩; replace a0 := (hB2.cell (p := ⟨_, _, none⟩) (cell_lt a0)).trans a0; replace a1 := (hB2.cell (p := ⟨_, _, none⟩) (cell_lt a1)).trans a1; replace hBw := below_chain hBw hB2; have hz3 : R3.size = k := (by rw [← ba_list, hR3, List.length_replicate]); have ha3 := fun w => run_string_add_sum (P := Try.prog) w ⟨#[97]⟩ R3 (by rw [hz3]; show 1 + _ ≤ _; have := HK.out; omega); have HT3 := Lib.hid (show (⟨#[97]⟩ ++ R3 : ByteArray).data.toList = opB k 123 by rw [ByteArray.data_append, Array.toList_append, hR3]; rfl); clear hB2 hR3)
    | (go_at_call 33; refine (hB _ _ HT3.out (HM.out.below hBw hM0)).mono ?_; rintro x w5 ⟨⟨aa, la, ca, ab, lb, cb, rfl⟩, hB2⟩; replace a0 := (hB2.cell (p := ⟨_, _, none⟩) (cell_lt a0)).trans a0; replace a1 := (hB2.cell (p := ⟨_, _, none⟩) (cell_lt a1)).trans a1; replace hBw := below_chain hBw hB2; clear hB2)
    | (refine wpList_store_rowTo rfl 33 (.tmp 12) (.tmp 46) rfl rfl w5.heap.size #[.int .i64 e2, .int .i64 f2] rfl rfl 33 #[.int .i64 0, .int .i64 0] (heap_alloc_new w5 _) info33 rfl (by simp [Value.oneCell']) ?_; have hX1 := setRow_heap _ w5.heap.size _ #[.int .i64 e2, .int .i64 f2] _ _ (heap_alloc_new w5 (.cells #[.int .i64 0, .int .i64 0] 33)); have hY1 : Below w5.heap.size w5 _ := below_setRow ((Below.refl _ w5).alloc (Nat.le_refl _) (.cells #[.int .i64 0, .int .i64 0] 33)) (Nat.le_refl _) #[.int .i64 e2, .int .i64 f2]; have hz1 : w5.heap.size < ((w5.alloc (.cells #[.int .i64 0, .int .i64 0] 33)).setRow w5.heap.size #[.int .i64 e2, .int .i64 f2]).heap.size := (Array.getElem?_eq_some_iff.1 hX1).1; generalize (w5.alloc (.cells #[.int .i64 0, .int .i64 0] 33)).setRow w5.heap.size #[.int .i64 e2, .int .i64 f2] = W5 at hX1 hY1 hz1 ⊢; have b0 := cell_of_row _ _ 0 _ _ _ hX1; have b1 := cell_of_row _ _ 1 _ _ _ hX1; simp only [List.getElem?_toArray, List.getElem?_cons_zero, List.getElem?_cons_succ] at b0 b1; replace a0 := (hY1.cell (p := ⟨_, _, none⟩) (cell_lt a0)).trans a0; replace a1 := (hY1.cell (p := ⟨_, _, none⟩) (cell_lt a1)).trans a1; replace hBw := below_chain hBw hY1; clear hX1 hY1 hz1))
  all_goals (refine (fixed9_any _ (HM.out.below hBw hM0)).mono ?_; rintro x w6 ⟨rfl, hB2⟩; replace a0 := (hB2.cell (p := ⟨_, _, none⟩) (cell_lt a0)).trans a0; replace a1 := (hB2.cell (p := ⟨_, _, none⟩) (cell_lt a1)).trans a1; replace b0 := (hB2.cell (p := ⟨_, _, none⟩) (cell_lt b0)).trans b0; replace b1 := (hB2.cell (p := ⟨_, _, none⟩) (cell_lt b1)).trans b1; replace hBw := below_chain hBw hB2; clear hB2)
  all_goals (have hd := HD.out; clear HD hA hB hr hs; rcases hd with ⟨h1, rfl, rfl, rfl, rfl, rfl⟩ | ⟨h1, rfl, rfl, rfl, rfl, rfl⟩ | ⟨h1, h2, rfl, rfl, rfl, rfl, rfl⟩)
  all_goals first
    | (exfalso; omega)
    | (exfalso; have hz := ‹((k : Int) == 0) = true›; simp at hz; omega)
    | (exfalso; have hz := ‹((k : Int) == 0) = false›; simp at hz; omega)
    | skip
  all_goals (
    have q1 := fun w => fault_eq 0 0 w
    have q2 := fun w => fault_eq 6 100 w
    have q3 := fun w => fault_eq 6 101 w
    have q4 := fun (y : Int) w => fault_eq 5 y w
    have qg := fun u v xs ys w => fault_guard u v xs ys w)
  all_goals ((try dsimp only); go_wp2)
  all_goals first | (go_ret; exact ⟨rfl, hBw⟩) | trace_state
theorem lawdeep_any (a b : Int) (ha0 : 0 ≤ a) (ha1 : a < 256) (hb0 : 0 ≤ b) (hb1 : b < 256) (w : World) (hM : Mx w) :
    Calls Try.prog 16 #[.int .u8 a, .int .u8 b] w fun e w' => e = .returned (.bool true) ∧ Below w.heap.size w w' := by
  obtain ⟨k, hk⟩ : ∃ k : Nat, a % 130 = k := ⟨(a % 130).toNat, by omega⟩
  have hk2 : k ≤ 129 := by omega
  have h3 : b % 3 = 0 ∨ b % 3 = 1 ∨ b % 3 = 2 := by omega
  rcases h3 with h | h | h
  · exact deep_walk0 a b k hk2 hk ha0 ha1 hb0 hb1 h w hM
  · exact deep_walk1 a b k hk2 hk ha0 ha1 hb0 hb1 h w hM
  · exact deep_walk2 a b k hk2 hk ha0 ha1 hb0 hb1 h w hM
end Go.Proofs.Ytbkmlldhjchhjaa
