/-
  Layer 7: contracts of the laws ScanCleans, ScanOnes, ScanAlls.
-/
import Derived.Test.YtbkmlldhjchhjaaSr
namespace Go.Proofs.Ytbkmlldhjchhjaa
open Go.ChangeShapes Go.WideShapes Go.ChangeAt Go.RowKit

theorem tok_eq (x y z : Nat) (w : World) : (binOp .eql 26 (.agg #[.int .u8 x, .int .i64 y, .int .i64 z]) (.agg #[.int .u8 x, .int .i64 y, .int .i64 z])).run Try.prog w = .ok (.bool true) w := by
  have ht : Try.prog.underlying 26 = some (.struct (Try.prog.fieldsOf 26)) := by kernel_rfl
  have hp : Try.prog.stoodInHeld 26 = false := by kernel_rfl
  have hf : (Try.prog.fieldsOf 26).toList.map (fun f => (f.name, f.type, f.offset)) = [("Kind", 5, 0), ("From", 3, 1), ("To", 3, 2)] := by kernel_rfl
  rw [run_eql_struct, run_equalIn_agg _ 9999 26 _ _ ht hp]
  generalize (Try.prog.fieldsOf 26).toList = l at hf
  rcases l with _ | ⟨f1, _ | ⟨f2, _ | ⟨f3, _ | ⟨f4, l⟩⟩⟩⟩ <;> simp at hf
  obtain ⟨⟨n1, t1, o1⟩, ⟨n2, t2, o2⟩, n3, t3, o3⟩ := hf
  have u3 : Try.prog.underlying 3 = some (.int .i64) := by kernel_rfl
  have u5 : Try.prog.underlying 5 = some (.int .u8) := by kernel_rfl
  simp [go_sem, n1, t1, o1, n2, t2, o2, n3, t3, o3, u3, u5]
theorem tok_guard2 (u v : Operand) (xs ys : Array Value) (w : World) : (eqGuard .eql 26 u v (.agg xs) (.agg ys)).run Try.prog w = .ok () w :=
  run_eqGuard_agg w .eql 26 u v xs ys (by kernel_rfl)
theorem fault_eq (x y : Int) (w : World) : (binOp .eql 33 (.agg #[.int .i64 x, .int .i64 y]) (.agg #[.int .i64 x, .int .i64 y])).run Try.prog w = .ok (.bool true) w := by
  have ht : Try.prog.underlying 33 = some (.struct (Try.prog.fieldsOf 33)) := by kernel_rfl
  have hp : Try.prog.stoodInHeld 33 = false := by kernel_rfl
  have hf : (Try.prog.fieldsOf 33).toList.map (fun f => (f.name, f.type, f.offset)) = [("Err", 27, 0), ("At", 3, 1)] := by kernel_rfl
  rw [run_eql_struct, run_equalIn_agg _ 9999 33 _ _ ht hp]
  generalize (Try.prog.fieldsOf 33).toList = l at hf
  rcases l with _ | ⟨f1, _ | ⟨f2, _ | ⟨f3, l⟩⟩⟩ <;> simp at hf
  obtain ⟨⟨n1, t1, o1⟩, n2, t2, o2⟩ := hf
  have u3 : Try.prog.underlying 3 = some (.int .i64) := by kernel_rfl
  have u5 : Try.prog.underlying 27 = some (.int .i64) := by kernel_rfl
  simp [go_sem, n1, t1, o1, n2, t2, o2, u3, u5]
theorem fault_guard (u v : Operand) (xs ys : Array Value) (w : World) : (eqGuard .eql 33 u v (.agg xs) (.agg ys)).run Try.prog w = .ok () w :=
  run_eqGuard_agg w .eql 33 u v xs ys (by kernel_rfl)
set_option maxHeartbeats 4000000 in
theorem lawcleans_any (s : ByteArray) (hs : s.size ≤ 140737488351232) (w : World) (hM : Mx w) :
    Calls Try.prog 3 #[.string s] w fun e w' => e = .returned (.bool true) ∧ Below w.heap.size w w' := by
  have h1 := fun w => clean_any s (by unfold maxLen; omega) w
  have h2 := fun w => rclean_any s (by unfold maxLen; omega) w
  obtain ⟨C, hC⟩ : ∃ C, C = cleanAt s.data.toList s.size 0 := ⟨_, rfl⟩
  rw [← hC] at h1 h2
  have HM := Lib.hid hM
  clear hC hM
  go_enter Try.func3, Try.ntmps3
  go_wp2_with (first
    | (go_at_call 17; refine (fixed7_any _ HM.out).mono ?_; rintro e w1 ⟨rfl, hB⟩)
    | (go_at_call 18; refine (h1 _).mono ?_; rintro e w2 ⟨rfl, hB2⟩; replace hB := below_chain hB hB2; clear hB2)
    | (go_at_call 19; refine (h2 _).mono ?_; rintro e w3 ⟨rfl, hB2⟩; replace hB := below_chain hB hB2; clear hB2))
  go_ret
  exact ⟨rfl, hB⟩
theorem oneAns_row (l : List UInt8) (x : Int) : ∃ p q r : Nat, (oneAns l x).1 = #[.int .u8 p, .int .i64 q, .int .i64 r] := by
  unfold oneAns
  split
  · exact ⟨0, 0, 0, rfl⟩
  split
  · exact ⟨0, 0, 0, rfl⟩
  unfold tokRow
  dsimp only
  split
  · exact ⟨0, 0, 0, rfl⟩
  · exact ⟨_, _, _, rfl⟩
set_option maxRecDepth 100000 in
set_option maxHeartbeats 4000000 in
theorem lawones_any (s : ByteArray) (x : Int) (w : World) (hM : Mx w) :
    Calls Try.prog 4 #[.string s, .int .i64 x] w fun e w' => e = .returned (.bool true) ∧ Below w.heap.size w w' := by
  have hM0 := hM.lt
  have HM := Lib.hid hM
  clear hM
  by_cases hbig : 3000 < s.size
  · have i1 : (3000 : Int) < s.size := by omega
    go_enter Try.func4, Try.ntmps4
    go_wp2_with (go_at_call 17; refine (fixed7_any _ HM.out).mono ?_; rintro e w1 ⟨rfl, hB⟩)
    go_ret
    exact ⟨rfl, hB⟩
  have i1 : ¬ (3000 : Int) < s.size := by omega
  have h1 := fun w hM => one_any s (by omega) x w hM
  have h2 := fun w => rone_any s (by omega) x w
  obtain ⟨p, q, r, hT⟩ := oneAns_row s.data.toList x
  unfold oneV at h1 h2
  rw [hT] at h1 h2
  obtain ⟨E, hE⟩ : ∃ E, E = (oneAns s.data.toList x).2 := ⟨_, rfl⟩
  rw [← hE] at h1 h2
  clear hT hE
  have hne := fun w => tok_eq p q r w
  have hgd := fun u v w => tok_guard2 u v #[.int .u8 p, .int .i64 q, .int .i64 r] #[.int .u8 p, .int .i64 q, .int .i64 r] w
  go_enter Try.func4, Try.ntmps4
  go_wp2_with (first
    | (go_at_call 20; refine (h1 _ HM.out).mono ?_; rintro e w1 ⟨rfl, hB1⟩)
    | (go_at_call 21; refine (h2 _).mono ?_; rintro e w2 ⟨rfl, hB3⟩)
    | (go_at_call 17; refine (fixed7_any _ (HM.out.below (below_chain hB1 (below_chain hY1 (below_chain hB3 hY2))) hM0)).mono ?_; rintro e w3 ⟨rfl, hB5⟩; have hBc := below_chain hY2 hB5; have hBb := below_chain hB3 hBc; have hBa := below_chain hY1 hBb; have hBw := below_chain hB1 hBa; have R1 := (hBb.block w1.heap.size hz1).trans HX1.out; have R2 := (hB5.block w2.heap.size hz2).trans HX2.out; have a0 := cell_of_row _ _ 0 _ _ _ R1; have a1 := cell_of_row _ _ 1 _ _ _ R1; have a2 := cell_of_row _ _ 2 _ _ _ R1; have b0 := cell_of_row _ _ 0 _ _ _ R2; have b1 := cell_of_row _ _ 1 _ _ _ R2; have b2 := cell_of_row _ _ 2 _ _ _ R2; simp only [List.getElem?_toArray, List.getElem?_cons_zero, List.getElem?_cons_succ] at a0 a1 a2 b0 b1 b2; clear R1 R2 hBa hBb hBc hY1 hY2 hB1 hB3 hB5 HX1 HX2 hz1 hz2)
    | (refine wpList_store_rowTo rfl 26 (.tmp 5) (.tmp 17) rfl rfl w1.heap.size #[.int .u8 p, .int .i64 q, .int .i64 r] rfl rfl 26 #[.int .u8 0, .int .i64 0, .int .i64 0] (heap_alloc_new w1 _) info26 rfl (by simp [Value.oneCell']) ?_; have hX1 := setRow_heap _ w1.heap.size _ #[.int .u8 p, .int .i64 q, .int .i64 r] _ _ (heap_alloc_new w1 (.cells #[.int .u8 0, .int .i64 0, .int .i64 0] 26)); have hY1 : Below w1.heap.size w1 _ := below_setRow ((Below.refl _ w1).alloc (Nat.le_refl _) (.cells #[.int .u8 0, .int .i64 0, .int .i64 0] 26)) (Nat.le_refl _) #[.int .u8 p, .int .i64 q, .int .i64 r]; have hz1 : w1.heap.size < ((w1.alloc (.cells #[.int .u8 0, .int .i64 0, .int .i64 0] 26)).setRow w1.heap.size #[.int .u8 p, .int .i64 q, .int .i64 r]).heap.size := (Array.getElem?_eq_some_iff.1 hX1).1; generalize (w1.alloc (.cells #[.int .u8 0, .int .i64 0, .int .i64 0] 26)).setRow w1.heap.size #[.int .u8 p, .int .i64 q, .int .i64 r] = W1 at hX1 hY1 hz1 ⊢; have HX1 := Lib.hid hX1; clear hX1)
    | (refine wpList_store_rowTo rfl 26 (.tmp 7) (.tmp 23) rfl rfl w2.heap.size #[.int .u8 p, .int .i64 q, .int .i64 r] rfl rfl 26 #[.int .u8 0, .int .i64 0, .int .i64 0] (heap_alloc_new w2 _) info26 rfl (by simp [Value.oneCell']) ?_; have hX2 := setRow_heap _ w2.heap.size _ #[.int .u8 p, .int .i64 q, .int .i64 r] _ _ (heap_alloc_new w2 (.cells #[.int .u8 0, .int .i64 0, .int .i64 0] 26)); have hY2 : Below w2.heap.size w2 _ := below_setRow ((Below.refl _ w2).alloc (Nat.le_refl _) (.cells #[.int .u8 0, .int .i64 0, .int .i64 0] 26)) (Nat.le_refl _) #[.int .u8 p, .int .i64 q, .int .i64 r]; have hz2 : w2.heap.size < ((w2.alloc (.cells #[.int .u8 0, .int .i64 0, .int .i64 0] 26)).setRow w2.heap.size #[.int .u8 p, .int .i64 q, .int .i64 r]).heap.size := (Array.getElem?_eq_some_iff.1 hX2).1; generalize (w2.alloc (.cells #[.int .u8 0, .int .i64 0, .int .i64 0] 26)).setRow w2.heap.size #[.int .u8 p, .int .i64 q, .int .i64 r] = W2 at hX2 hY2 hz2 ⊢; have HX2 := Lib.hid hX2; clear hX2))
  go_ret
  exact ⟨rfl, hBw⟩
set_option maxRecDepth 100000 in
set_option maxHeartbeats 4000000 in
theorem lawalls_any (s : ByteArray) (w : World) (hM : Mx w) :
    Calls Try.prog 5 #[.string s] w fun e w' => e = .returned (.bool true) ∧ Below w.heap.size w w' := by
  have hM0 := hM.lt
  have HM := Lib.hid hM
  clear hM
  by_cases hbig : 3000 < s.size ∧ s.size ≤ 65536
  · obtain ⟨hb1, hb2⟩ := hbig
    have i1 : (3000 : Int) < s.size := by omega
    have i2 : (s.size : Int) ≤ 65536 := by omega
    go_enter Try.func5, Try.ntmps5
    go_wp2_with (go_at_call 17; refine (fixed7_any _ HM.out).mono ?_; rintro e w1 ⟨rfl, hB⟩)
    go_ret
    exact ⟨rfl, hB⟩
  have h1 : ∀ w, Mx w → Calls Try.prog 22 #[.string s] w fun e w' => (∃ a cap, e = .returned (.tuple #[.slice a (allAns s.data.toList).1.length cap, .agg #[.int .i64 (allAns s.data.toList).2.1, .int .i64 (allAns s.data.toList).2.2]]) ∧ Toks w' a (allAns s.data.toList).1 ∧ (allAns s.data.toList).1.length ≤ maxLen) ∧ Below w.heap.size w w' := fun w hM => by
    refine (all_any s w hM).mono ?_
    rintro e w' ⟨⟨v, rfl, hO⟩, hB⟩
    obtain ⟨a, cap, rfl, hT, hL⟩ := own_toks hO
    exact ⟨⟨a, cap, rfl, hT, hL⟩, hB⟩
  have h2 : ∀ w, Calls Try.prog 23 #[.string s] w fun e w' => (∃ a cap, e = .returned (.tuple #[.slice a (allAns s.data.toList).1.length cap, .agg #[.int .i64 (allAns s.data.toList).2.1, .int .i64 (allAns s.data.toList).2.2]]) ∧ Toks w' a (allAns s.data.toList).1) ∧ Below w.heap.size w w' := fun w => by
    refine (rall_any s w).mono ?_
    rintro e w' ⟨⟨v, rfl, hO⟩, hB⟩
    obtain ⟨a, cap, rfl, hT, _⟩ := own_toks hO
    exact ⟨⟨a, cap, rfl, hT⟩, hB⟩
  obtain ⟨R, hR⟩ : ∃ R, R = allAns s.data.toList := ⟨_, rfl⟩
  rw [← hR] at h1 h2
  clear hR
  obtain ⟨T, f, g⟩ := R
  dsimp only at h1 h2
  have hne := fun w => fault_eq f g w
  have hgd := fun u v w => fault_guard u v #[.int .i64 f, .int .i64 g] #[.int .i64 f, .int .i64 g] w
  have hcase : (decide ((3000 : Int) < s.size) = false) ∨ (decide ((3000 : Int) < s.size) = true ∧ decide ((s.size : Int) ≤ 65536) = false) := by
    by_cases h : 3000 < s.size
    · exact .inr ⟨decide_eq_true (by omega), decide_eq_false (by omega)⟩
    · exact .inl (decide_eq_false (by omega))
  clear hbig
  rcases hcase with i1 | ⟨i1, i2⟩
  all_goals
    go_enter Try.func5, Try.ntmps5
    go_wp2_with (first
      | (go_at_call 22; refine (h1 _ HM.out).mono ?_; rintro e w1 ⟨⟨a, ca, rfl, hTa, hLn⟩, hB1⟩; have HTA := Lib.hid hTa; clear hTa)
      | (go_at_call 23; refine (h2 _).mono ?_; rintro e w2 ⟨⟨b, cb, rfl, hTb⟩, hB3⟩; have HTB := Lib.hid hTb; clear hTb)
      | (go_at_call 17; refine (fixed7_any _ (HM.out.below (below_chain hB1 (below_chain hY1 (below_chain hB3 hY2))) hM0)).mono ?_; rintro e w3 ⟨rfl, hB5⟩; have hBc := below_chain hY2 hB5; have hBb := below_chain hB3 hBc; have hBa := below_chain hY1 hBb; have hBw := below_chain hB1 hBa; have R1 := (hBb.block w1.heap.size hz1).trans HX1.out; have R2 := (hB5.block w2.heap.size hz2).trans HX2.out; have a0 := cell_of_row _ _ 0 _ _ _ R1; have a1 := cell_of_row _ _ 1 _ _ _ R1; have b0 := cell_of_row _ _ 0 _ _ _ R2; have b1 := cell_of_row _ _ 1 _ _ _ R2; simp only [List.getElem?_toArray, List.getElem?_cons_zero, List.getElem?_cons_succ] at a0 a1 b0 b1; have TA := Lib.hid (HTA.out.below hBa); have TB := Lib.hid (HTB.out.below hBc); clear R1 R2 hBa hBb hBc hY1 hY2 hB1 hB3 hB5 HX1 HX2 hz1 hz2 HTA HTB)
      | (go_at_call 24; refine (same_yes _ a b ca cb T TA.out TB.out hLn).mono ?_; rintro e w4 ⟨rfl, hB6⟩; replace hBw := below_chain hBw hB6; clear hB6)
      | (refine wpList_store_rowTo rfl 33 (.tmp 4) (.tmp 20) rfl rfl w1.heap.size #[.int .i64 f, .int .i64 g] rfl rfl 33 #[.int .i64 0, .int .i64 0] (heap_alloc_new w1 _) info33 rfl (by simp [Value.oneCell']) ?_; have hX1 := setRow_heap _ w1.heap.size _ #[.int .i64 f, .int .i64 g] _ _ (heap_alloc_new w1 (.cells #[.int .i64 0, .int .i64 0] 33)); have hY1 : Below w1.heap.size w1 _ := below_setRow ((Below.refl _ w1).alloc (Nat.le_refl _) (.cells #[.int .i64 0, .int .i64 0] 33)) (Nat.le_refl _) #[.int .i64 f, .int .i64 g]; have hz1 : w1.heap.size < ((w1.alloc (.cells #[.int .i64 0, .int .i64 0] 33)).setRow w1.heap.size #[.int .i64 f, .int .i64 g]).heap.size := (Array.getElem?_eq_some_iff.1 hX1).1; generalize (w1.alloc (.cells #[.int .i64 0, .int .i64 0] 33)).setRow w1.heap.size #[.int .i64 f, .int .i64 g] = W1 at hX1 hY1 hz1 ⊢; have HX1 := Lib.hid hX1; clear hX1)
      | (refine wpList_store_rowTo rfl 33 (.tmp 6) (.tmp 25) rfl rfl w2.heap.size #[.int .i64 f, .int .i64 g] rfl rfl 33 #[.int .i64 0, .int .i64 0] (heap_alloc_new w2 _) info33 rfl (by simp [Value.oneCell']) ?_; have hX2 := setRow_heap _ w2.heap.size _ #[.int .i64 f, .int .i64 g] _ _ (heap_alloc_new w2 (.cells #[.int .i64 0, .int .i64 0] 33)); have hY2 : Below w2.heap.size w2 _ := below_setRow ((Below.refl _ w2).alloc (Nat.le_refl _) (.cells #[.int .i64 0, .int .i64 0] 33)) (Nat.le_refl _) #[.int .i64 f, .int .i64 g]; have hz2 : w2.heap.size < ((w2.alloc (.cells #[.int .i64 0, .int .i64 0] 33)).setRow w2.heap.size #[.int .i64 f, .int .i64 g]).heap.size := (Array.getElem?_eq_some_iff.1 hX2).1; generalize (w2.alloc (.cells #[.int .i64 0, .int .i64 0] 33)).setRow w2.heap.size #[.int .i64 f, .int .i64 g] = W2 at hX2 hY2 hz2 ⊢; have HX2 := Lib.hid hX2; clear hX2))
    go_ret
    exact ⟨rfl, hBw⟩
end Go.Proofs.Ytbkmlldhjchhjaa
