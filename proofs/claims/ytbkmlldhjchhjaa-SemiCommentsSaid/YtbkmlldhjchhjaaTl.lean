/-
  Layer 8: contract of the law SemiTokens.
-/
import Derived.Test.YtbkmlldhjchhjaaTk
namespace Go.Proofs.Ytbkmlldhjchhjaa
open Go.ChangeShapes Go.WideShapes Go.ChangeAt Go.RowKit

theorem fault_neqS (x y : Int) (w : World) : (binOp .neq 33 (.agg #[.int .i64 x, .int .i64 y]) (.agg #[.int .i64 x, .int .i64 y])).run Try.prog w = .ok (.bool false) w := by
  have ht : Try.prog.underlying 33 = some (.struct (Try.prog.fieldsOf 33)) := by kernel_rfl
  have hp : Try.prog.stoodInHeld 33 = false := by kernel_rfl
  have hf : (Try.prog.fieldsOf 33).toList.map (fun f => (f.name, f.type, f.offset)) = [("Err", 27, 0), ("At", 3, 1)] := by kernel_rfl
  rw [run_neq_struct, run_equalIn_agg _ 9999 33 _ _ ht hp]
  generalize (Try.prog.fieldsOf 33).toList = l at hf
  rcases l with _ | ⟨f1, _ | ⟨f2, _ | ⟨f3, l⟩⟩⟩ <;> simp at hf
  obtain ⟨⟨n1, t1, o1⟩, n2, t2, o2⟩ := hf
  have u3 : Try.prog.underlying 3 = some (.int .i64) := by kernel_rfl
  have u5 : Try.prog.underlying 27 = some (.int .i64) := by kernel_rfl
  simp [go_sem, n1, t1, o1, n2, t2, o2, u3, u5]
theorem sem_bad {l : List UInt8} {f g : Int} (h : allAns l = ([], f, g)) (hf : f ≠ 0) : semAns l = ([], f, g) := by
  unfold semAns
  rw [h, if_neg hf]
theorem sem_good {l : List UInt8} {T : List (Nat × Nat × Nat)} (h : allAns l = (T, 0, 0)) : semAns l = (sems l none T, 0, 0) := by
  unfold semAns
  rw [h, if_pos rfl]
theorem silent_cases {K : Nat} (h : silentB K = true) : K = 10 ∨ K = 11 ∨ K = 12 := of_decide_eq_true h
theorem silent_not {K : Nat} (h : silentB K = false) : K ≠ 10 ∧ K ≠ 11 ∧ K ≠ 12 := by
  have := of_decide_eq_false h
  omega
set_option maxRecDepth 100000 in
set_option maxHeartbeats 4000000 in
theorem tokens_bad (s : ByteArray) (w : World) (hM : Mx w) (f g : Int) (hA : allAns s.data.toList = ([], f, g)) (hf : f ≠ 0) :
    Calls Try.prog 13 #[.string s] w fun e w' => e = .returned (.bool true) ∧ Below w.heap.size w w' := by
  have hM0 := hM.lt
  have HM := Lib.hid hM
  clear hM
  have h1 := fun w hM => all_toks s w hM
  rw [hA] at h1
  have h2 := fun w hM => semi_toks s w hM
  rw [sem_bad hA hf] at h2
  have hne := fun w => fault_neq f g w
  rw [decide_eq_false hf] at hne
  have hnS := fun w => fault_neqS f g w
  have heq := fun w => fault_eq f g w
  have hgd := fun u v w => fault_ngd u v #[.int .i64 f, .int .i64 g] #[.int .i64 0, .int .i64 0] w
  have hgS := fun u v w => fault_ngd u v #[.int .i64 f, .int .i64 g] #[.int .i64 f, .int .i64 g] w
  have hge := fun u v w => fault_guard u v #[.int .i64 f, .int .i64 g] #[.int .i64 f, .int .i64 g] w
  clear hA hf
  go_enter Try.func13, Try.ntmps13
  go_wp2_with (first
    | (go_at_call 22; refine (h1 _ HM.out).mono ?_; rintro e w1 ⟨⟨a, ca, rfl, hTa, hLn⟩, hB1⟩; clear hTa hLn)
    | (refine wpList_store_rowTo rfl 33 (.tmp 4) (.tmp 13) rfl rfl w1.heap.size #[.int .i64 f, .int .i64 g] rfl rfl 33 #[.int .i64 0, .int .i64 0] (heap_alloc_new w1 _) info33 rfl (by simp [Value.oneCell']) ?_; have hX1 := setRow_heap _ w1.heap.size _ #[.int .i64 f, .int .i64 g] _ _ (heap_alloc_new w1 (.cells #[.int .i64 0, .int .i64 0] 33)); have hY1 : Below w1.heap.size w1 _ := below_setRow ((Below.refl _ w1).alloc (Nat.le_refl _) (.cells #[.int .i64 0, .int .i64 0] 33)) (Nat.le_refl _) #[.int .i64 f, .int .i64 g]; have hz1 : w1.heap.size < ((w1.alloc (.cells #[.int .i64 0, .int .i64 0] 33)).setRow w1.heap.size #[.int .i64 f, .int .i64 g]).heap.size := (Array.getElem?_eq_some_iff.1 hX1).1; generalize (w1.alloc (.cells #[.int .i64 0, .int .i64 0] 33)).setRow w1.heap.size #[.int .i64 f, .int .i64 g] = W1 at hX1 hY1 hz1 ⊢; have a0 := cell_of_row _ _ 0 _ _ _ hX1; have a1 := cell_of_row _ _ 1 _ _ _ hX1; simp only [List.getElem?_toArray, List.getElem?_cons_zero, List.getElem?_cons_succ] at a0 a1; have hBw := hB1.trans (hY1.mono hB1.size); clear hX1 hY1 hB1 hz1)
    | (go_at_call 29; refine (h2 _ (HM.out.below hBw hM0)).mono ?_; rintro e w2 ⟨⟨b, cb, rfl, hTb, hLn⟩, hB2⟩; clear hTb hLn; replace a0 := (hB2.cell (p := ⟨_, _, none⟩) (cell_lt a0)).trans a0; replace a1 := (hB2.cell (p := ⟨_, _, none⟩) (cell_lt a1)).trans a1; replace hBw := below_chain hBw hB2; clear hB2)
    | (refine wpList_store_rowTo rfl 33 (.tmp 6) (.tmp 18) rfl rfl w2.heap.size #[.int .i64 f, .int .i64 g] rfl rfl 33 #[.int .i64 0, .int .i64 0] (heap_alloc_new w2 _) info33 rfl (by simp [Value.oneCell']) ?_; have hX1 := setRow_heap _ w2.heap.size _ #[.int .i64 f, .int .i64 g] _ _ (heap_alloc_new w2 (.cells #[.int .i64 0, .int .i64 0] 33)); have hY1 : Below w2.heap.size w2 _ := below_setRow ((Below.refl _ w2).alloc (Nat.le_refl _) (.cells #[.int .i64 0, .int .i64 0] 33)) (Nat.le_refl _) #[.int .i64 f, .int .i64 g]; have hz1 : w2.heap.size < ((w2.alloc (.cells #[.int .i64 0, .int .i64 0] 33)).setRow w2.heap.size #[.int .i64 f, .int .i64 g]).heap.size := (Array.getElem?_eq_some_iff.1 hX1).1; generalize (w2.alloc (.cells #[.int .i64 0, .int .i64 0] 33)).setRow w2.heap.size #[.int .i64 f, .int .i64 g] = W2 at hX1 hY1 hz1 ⊢; have b0 := cell_of_row _ _ 0 _ _ _ hX1; have b1 := cell_of_row _ _ 1 _ _ _ hX1; simp only [List.getElem?_toArray, List.getElem?_cons_zero, List.getElem?_cons_succ] at b0 b1; replace a0 := (hY1.cell (p := ⟨_, _, none⟩) (cell_lt a0)).trans a0; replace a1 := (hY1.cell (p := ⟨_, _, none⟩) (cell_lt a1)).trans a1; replace hBw := below_chain hBw hY1; clear hX1 hY1 hz1)
    | (go_at_call 26; refine (fixed8_any _ (HM.out.below hBw hM0)).mono ?_; rintro e w3 ⟨rfl, hB2⟩; replace a0 := (hB2.cell (p := ⟨_, _, none⟩) (cell_lt a0)).trans a0; replace a1 := (hB2.cell (p := ⟨_, _, none⟩) (cell_lt a1)).trans a1; replace b0 := (hB2.cell (p := ⟨_, _, none⟩) (cell_lt b0)).trans b0; replace b1 := (hB2.cell (p := ⟨_, _, none⟩) (cell_lt b1)).trans b1; replace hBw := below_chain hBw hB2; clear hB2))
  go_ret
  exact ⟨rfl, hBw⟩
set_option maxRecDepth 100000 in
set_option maxHeartbeats 16000000 in
theorem tokens_good (s : ByteArray) (w : World) (hM : Mx w) (T : List (Nat × Nat × Nat)) (hA : allAns s.data.toList = (T, 0, 0)) (hs : s.size ≤ 65536) (hT : Tiles s.data.toList 0 T) :
    Calls Try.prog 13 #[.string s] w fun e w' => e = .returned (.bool true) ∧ Below w.heap.size w w' := by
  have hM0 := hM.lt
  have HM := Lib.hid hM
  clear hM
  have h1 := fun w hM => all_toks s w hM
  rw [hA] at h1
  have h2 := fun w hM => semi_toks s w hM
  rw [sem_good hA] at h2
  have hOr := sems_ord (l := s.data.toList) T 0 0 none hT (Nat.le_refl _) (Nat.zero_le _) (fun z h => by cases h)
  rw [ba_list] at hOr
  obtain ⟨L, hL⟩ : ∃ L, L = sems s.data.toList none T := ⟨_, rfl⟩
  rw [← hL] at h2 hOr
  have hTb := tiles_bounds T 0 hT
  rw [ba_list] at hTb
  obtain ⟨n, hn⟩ : ∃ n, n = T.length := ⟨_, rfl⟩
  obtain ⟨m, hm⟩ : ∃ m, m = L.length := ⟨_, rfl⟩
  have hin : ∀ w b cb, Toks w b L → m ≤ maxLen → Calls Try.prog 30 #[.string s, .slice b m cb] w fun e w' => e = .returned (.bool true) ∧ Below w.heap.size w w' := fun w b cb h hl => by
    rw [hm]; exact inside_any s hs w b cb L h hOr (by rw [← hm]; exact hl)
  dsimp only at h1 h2
  rw [← hn] at h1
  rw [← hm] at h2
  have hne := fun w => fault_neq 0 0 w
  rw [show (!(decide ((0 : Int) = 0) && decide ((0 : Int) = 0))) = false from rfl] at hne
  have hgd := fun u v w => fault_ngd u v #[.int .i64 0, .int .i64 0] #[.int .i64 0, .int .i64 0] w
  have HN := Lib.hid hn
  have HMM := Lib.hid hm
  have HLL := Lib.hid hL
  have HTB := Lib.hid hTb
  clear hA hn hm hT hL hOr hTb
  go_enter Try.func13, Try.ntmps13
  go_wp2_with (first
    | (go_at_call 22; refine (h1 _ HM.out).mono ?_; rintro e w1 ⟨⟨a, ca, rfl, hTa, hLn⟩, hB1⟩; unfold maxLen at hLn; have HTA := Lib.hid hTa; clear hTa)
    | (refine wpList_store_rowTo rfl 33 (.tmp 4) (.tmp 13) rfl rfl w1.heap.size #[.int .i64 0, .int .i64 0] rfl rfl 33 #[.int .i64 0, .int .i64 0] (heap_alloc_new w1 _) info33 rfl (by simp [Value.oneCell']) ?_; have hX1 := setRow_heap _ w1.heap.size _ #[.int .i64 0, .int .i64 0] _ _ (heap_alloc_new w1 (.cells #[.int .i64 0, .int .i64 0] 33)); have hY1 : Below w1.heap.size w1 _ := below_setRow ((Below.refl _ w1).alloc (Nat.le_refl _) (.cells #[.int .i64 0, .int .i64 0] 33)) (Nat.le_refl _) #[.int .i64 0, .int .i64 0]; have hz1 : w1.heap.size < ((w1.alloc (.cells #[.int .i64 0, .int .i64 0] 33)).setRow w1.heap.size #[.int .i64 0, .int .i64 0]).heap.size := (Array.getElem?_eq_some_iff.1 hX1).1; generalize (w1.alloc (.cells #[.int .i64 0, .int .i64 0] 33)).setRow w1.heap.size #[.int .i64 0, .int .i64 0] = W1 at hX1 hY1 hz1 ⊢; have a0 := cell_of_row _ _ 0 _ _ _ hX1; have a1 := cell_of_row _ _ 1 _ _ _ hX1; simp only [List.getElem?_toArray, List.getElem?_cons_zero, List.getElem?_cons_succ] at a0 a1; have hBw := hB1.trans (hY1.mono hB1.size); replace HTA := Lib.hid (HTA.out.below hY1); clear hX1 hY1 hB1 hz1)
    | (go_at_call 29; refine (h2 _ (HM.out.below hBw hM0)).mono ?_; rintro e w2 ⟨⟨b, cb, rfl, hTb, hLm⟩, hB2⟩; have HLm := Lib.hid hLm; unfold maxLen at hLm; have HLB := Lib.hid hTb; clear hTb; replace a0 := (hB2.cell (p := ⟨_, _, none⟩) (cell_lt a0)).trans a0; replace a1 := (hB2.cell (p := ⟨_, _, none⟩) (cell_lt a1)).trans a1; replace HTA := Lib.hid (HTA.out.below hB2); replace hBw := below_chain hBw hB2; clear hB2)
    | (refine wpList_store_rowTo rfl 33 (.tmp 6) (.tmp 18) rfl rfl w2.heap.size #[.int .i64 0, .int .i64 0] rfl rfl 33 #[.int .i64 0, .int .i64 0] (heap_alloc_new w2 _) info33 rfl (by simp [Value.oneCell']) ?_; have hX1 := setRow_heap _ w2.heap.size _ #[.int .i64 0, .int .i64 0] _ _ (heap_alloc_new w2 (.cells #[.int .i64 0, .int .i64 0] 33)); have hY1 : Below w2.heap.size w2 _ := below_setRow ((Below.refl _ w2).alloc (Nat.le_refl _) (.cells #[.int .i64 0, .int .i64 0] 33)) (Nat.le_refl _) #[.int .i64 0, .int .i64 0]; have hz1 : w2.heap.size < ((w2.alloc (.cells #[.int .i64 0, .int .i64 0] 33)).setRow w2.heap.size #[.int .i64 0, .int .i64 0]).heap.size := (Array.getElem?_eq_some_iff.1 hX1).1; generalize (w2.alloc (.cells #[.int .i64 0, .int .i64 0] 33)).setRow w2.heap.size #[.int .i64 0, .int .i64 0] = W2 at hX1 hY1 hz1 ⊢; have b0 := cell_of_row _ _ 0 _ _ _ hX1; have b1 := cell_of_row _ _ 1 _ _ _ hX1; simp only [List.getElem?_toArray, List.getElem?_cons_zero, List.getElem?_cons_succ] at b0 b1; replace a0 := (hY1.cell (p := ⟨_, _, none⟩) (cell_lt a0)).trans a0; replace a1 := (hY1.cell (p := ⟨_, _, none⟩) (cell_lt a1)).trans a1; replace HTA := Lib.hid (HTA.out.below hY1); replace HLB := Lib.hid (HLB.out.below hY1); replace hBw := below_chain hBw hY1; clear hX1 hY1 hz1)
    | (go_at_call 26; refine (fixed8_any _ (HM.out.below hBw hM0)).mono ?_; rintro e w3 ⟨rfl, hB2⟩; replace a0 := (hB2.cell (p := ⟨_, _, none⟩) (cell_lt a0)).trans a0; replace a1 := (hB2.cell (p := ⟨_, _, none⟩) (cell_lt a1)).trans a1; replace b0 := (hB2.cell (p := ⟨_, _, none⟩) (cell_lt b0)).trans b0; replace b1 := (hB2.cell (p := ⟨_, _, none⟩) (cell_lt b1)).trans b1; replace HTA := Lib.hid (HTA.out.below hB2); replace HLB := Lib.hid (HLB.out.below hB2); replace hBw := below_chain hBw hB2; clear hB2)
    | (go_at_call 30; refine (hin _ b cb HLB.out HLm.out).mono ?_; rintro e w4 ⟨rfl, hB2⟩; replace HTA := Lib.hid (HTA.out.below hB2); replace HLB := Lib.hid (HLB.out.below hB2); replace hBw := below_chain hBw hB2; clear hB2 a0 a1 b0 b1))
  clear hne hgd h1 h2 hin
  go_loopw [7, 8] (fun qv kv wr => ∃ (q i : Nat), q ≤ m ∧ i ≤ n ∧ qv = .int .i64 q ∧ kv = .int .i64 i ∧ Hid (L.drop q = sems s.data.toList none (T.drop i)) ∧ Hid (Below w.heap.size w wr) ∧ Hid (Toks wr a T) ∧ Hid (Toks wr b L)) (fun _ kv _ => n - (intOf kv).toNat)
  case atStart => exact ⟨0, 0, by omega, by omega, rfl, rfl, HLL, Lib.hid hBw, HTA, HLB⟩
  case round =>
    clear HTA HLB hBw
    obtain ⟨q, i, hq, hi, rfl, rfl, hWd, HBW, HTA, HLB⟩ := hrel
    by_cases hlt : i < n
    · have j1 : (i : Int) < n := by omega
      have hkl : i < T.length := by rw [← HN.out]; exact hlt
      obtain ⟨⟨K, p, z⟩, hx⟩ : ∃ x, T[i]? = some x := ⟨T[i]'hkl, List.getElem?_eq_getElem hkl⟩
      have hd : T.drop i = (K, p, z) :: T.drop (i + 1) := by rw [List.drop_eq_getElem_cons hkl, (List.getElem?_eq_some_iff.1 hx).2]
      obtain ⟨b1, b2⟩ := HTB.out _ (List.mem_of_getElem? hx)
      have hW := hWd.out
      rw [hd] at hW
      dsimp only at b1 b2
      obtain ⟨g, rfl, c0, c1, c2⟩ := HTA.out i _ hx
      dsimp only at c0 c1 c2
      clear hd hkl hx hWd
      cases hsl : silentB K with
      | true =>
        rw [sems_silent _ _ _ hsl] at hW
        have HW := Lib.hid hW
        have hcs : (((K : Int) == 10) = true) ∨ (((K : Int) == 10) = false ∧ ((K : Int) == 11) = true) ∨ (((K : Int) == 10) = false ∧ ((K : Int) == 11) = false ∧ ((K : Int) == 12) = true) := by
          rcases silent_cases hsl with h | h | h
          · exact .inl (int_is (b := 10) h)
          · exact .inr (.inl ⟨int_not (b := 10) (by omega), int_is (b := 11) h⟩)
          · exact .inr (.inr ⟨int_not (b := 10) (by omega), int_not (b := 11) (by omega), int_is (b := 12) h⟩)
        clear hsl hW
        rcases hcs with k1 | ⟨k1, k2⟩ | ⟨k1, k2, k3⟩
        all_goals
          go_wp2
          go_roundw
          case rel => exact ⟨q, i + 1, hq, by omega, rfl, by go_num, HW, HBW, HTA, HLB⟩
          case measure => simp [intOf]; omega
      | false =>
        rw [sems_loud _ _ _ _ hsl] at hW
        obtain ⟨n1, n2, n3⟩ := silent_not hsl
        have k1 : ((K : Int) == 10) = false := int_not (b := 10) n1
        have k2 : ((K : Int) == 11) = false := int_not (b := 11) n2
        have k3 : ((K : Int) == 12) = false := int_not (b := 12) n3
        have hql : q < L.length := by
          rcases Nat.lt_or_ge q L.length with h | h
          · exact h
          · rw [List.drop_of_length_le h] at hW; cases hW
        rw [List.drop_eq_getElem_cons hql] at hW
        obtain ⟨hW1, hW2⟩ := List.cons.inj hW
        have hy : L[q]? = some (K, p, z) := by rw [List.getElem?_eq_getElem hql, hW1]
        obtain ⟨g', rfl, e0, e1, e2⟩ := HLB.out q _ hy
        dsimp only at e0 e1 e2
        have hqm : q < m := by rw [HMM.out]; exact hql
        have j2 : (q : Int) < m := by omega
        have j3 : ((q : Int) == m) = false := int_not (by omega)
        have j3' : decide (q = m) = false := decide_eq_false (by omega)
        have j4 : (0 : Int) ≤ q := by omega
        have j5 : (0 : Int) ≤ i := by omega
        have hne := fun w => tok_neqI K p z w
        have hgd := fun u v w => tok_guard u v #[.int .u8 K, .int .i64 p, .int .i64 z] #[.int .u8 K, .int .i64 p, .int .i64 z] w
        have HW2 := Lib.hid hW2
        clear hW hW1 hW2 hy hql hsl n1 n2 n3
        go_wp2
        go_quiet (fail)
        go_wp2
        clear hne hgd
        by_cases hq1 : q + 1 < m
        · have hql1 : q + 1 < L.length := by rw [← HMM.out]; exact hq1
          obtain ⟨⟨J, c, d⟩, hy⟩ : ∃ x, L[q + 1]? = some x := ⟨L[q + 1]'hql1, List.getElem?_eq_getElem hql1⟩
          have hd1 : L.drop (q + 1) = (J, c, d) :: L.drop (q + 1 + 1) := by rw [List.drop_eq_getElem_cons hql1, (List.getElem?_eq_some_iff.1 hy).2]
          obtain ⟨g3, hg3, f0, f1, f2⟩ := HLB.out (q + 1) _ hy
          have hg3 : g' = g3 := by injection hg3 with hg3; injection hg3
          subst hg3
          dsimp only at f0 f1 f2
          have hW3 := HW2.out
          rw [hd1] at hW3
          have i1 : (q : Int) + 1 < m := by omega
          have i2 : (0 : Int) ≤ (q : Int) + 1 := by omega
          have i3 : decide (q + 1 < m) = true := decide_eq_true hq1
          have i4 : decide ((q : Int) + 1 < m) = true := decide_eq_true i1
          have hcase : (J = 9 ∧ c = z ∧ d = z ∧ L.drop (q + 1 + 1) = sems s.data.toList none (T.drop (i + 1)) ∧ endsB K (textAt s.data.toList (K, p, z)) = true) ∨ (c < d ∧ L.drop (q + 1) = sems s.data.toList none (T.drop (i + 1))) := by
            cases he : endsB K (textAt s.data.toList (K, p, z)) with
            | true =>
              rw [he, if_pos rfl] at hW3
              rcases sems_some s.data.toList z (T.drop (i + 1)) with h | ⟨h, _⟩
              · rw [h] at hW3
                obtain ⟨g1, g2⟩ := List.cons.inj hW3
                obtain ⟨g1, g3⟩ := Prod.mk.inj g1
                obtain ⟨g3, g4⟩ := Prod.mk.inj g3
                exact .inl ⟨g1, g3, g4, g2, rfl⟩
              · rw [h] at hW3
                have hmem := List.mem_of_mem_drop (sems_first _ _ _ _ hW3.symm)
                exact .inr ⟨(HTB.out _ hmem).1, by rw [hd1]; exact hW3⟩
            | false =>
              rw [he, if_neg (by decide)] at hW3
              have hmem := List.mem_of_mem_drop (sems_first _ _ _ _ hW3.symm)
              exact .inr ⟨(HTB.out _ hmem).1, by rw [hd1]; exact hW3⟩
          clear hW3 hd1 hy hql1 HW2
          rcases hcase with ⟨rfl, rfl, rfl, hW4, he⟩ | ⟨hcd, hW4⟩
          · have HW4 := Lib.hid hW4
            have hX : (s.extract p d).data.toList = textAt s.data.toList (K, p, d) := by rw [Num.extract_take]; rfl
            have hen := fun w => ends_any K (s.extract p d) w
            rw [hX, he] at hen
            have hst := fun w => slice_str s p d (by omega) (by omega) w
            have hne := fun w => tok_neqI 9 d d w
            have hgd := fun u v w => tok_guard u v #[.int .u8 9, .int .i64 d, .int .i64 d] #[.int .u8 9, .int .i64 d, .int .i64 d] w
            have m1 : (p : Int) < d := by omega
            have m2 : (d : Int) ≤ s.size := by omega
            have m3 : (0 : Int) ≤ p := by omega
            clear hW4 he hX
            go_quiet (fail)
            go_wp2
            go_quiet ((go_at_call 27; refine (hen _).mono ?_; rintro e w' ⟨rfl, rfl⟩; exact ⟨rfl, _, rfl⟩))
            go_wp2
            go_roundw
            case rel => exact ⟨q + 1 + 1, i + 1, by omega, by omega, by go_num, by go_num, HW4, Lib.hid (below_drewN HBW.out _), HTA, HLB⟩
            case measure => simp [intOf]; omega
          · have HW4 := Lib.hid hW4
            have m1 : ((c : Int) == d) = false := int_not (by omega)
            have m2 : decide (c = d) = false := decide_eq_false (by omega)
            clear hW4
            go_quiet (fail)
            go_wp2
            go_roundw
            case rel => exact ⟨q + 1, i + 1, by omega, by omega, by go_num, by go_num, HW4, Lib.hid (below_drewN HBW.out _), HTA, HLB⟩
            case measure => simp [intOf]; omega
        · have HW4 : Hid (L.drop (q + 1) = sems s.data.toList none (T.drop (i + 1))) := by
            have h := HW2.out
            have hnil : L.drop (q + 1) = [] := List.drop_of_length_le (by rw [← HMM.out]; omega)
            refine Lib.hid ?_
            rw [h]
            rw [hnil] at h
            split at h
            · rename_i he
              rw [if_pos he]
              rcases sems_some s.data.toList z (T.drop (i + 1)) with h2 | ⟨h2, _⟩
              · rw [h2] at h; cases h
              · exact h2
            · rename_i he
              rw [if_neg he]
          have i1 : ¬ (q : Int) + 1 < m := by omega
          have i3 : decide (q + 1 < m) = false := decide_eq_false hq1
          have i4 : decide ((q : Int) + 1 < m) = false := decide_eq_false i1
          clear HW2
          go_quiet (fail)
          go_wp2
          go_roundw
          case rel => exact ⟨q + 1, i + 1, by omega, by omega, by go_num, by go_num, HW4, Lib.hid (below_drewN HBW.out _), HTA, HLB⟩
          case measure => simp [intOf]; omega
    · obtain rfl : i = n := by omega
      have hqm : q = m := by
        have h := hWd.out
        rw [HN.out, List.drop_length] at h
        have h : L.drop q = [] := h
        have h2 := List.length_drop (l := L) (i := q)
        rw [h, List.length_nil] at h2
        rw [HMM.out]
        have := hq
        rw [HMM.out] at this
        omega
      subst hqm
      clear hWd
      go_wp2
      go_ret
      exact ⟨rfl, HBW.out⟩
theorem lawtokens_any (s : ByteArray) (w : World) (hM : Mx w) :
    Calls Try.prog 13 #[.string s] w fun e w' => e = .returned (.bool true) ∧ Below w.heap.size w w' := by
  rcases all_cases s.data.toList with ⟨f, g, h1, h2, _, _⟩ | ⟨T, h1, h2, h3⟩
  · exact tokens_bad s w hM f g h1 h2
  · rw [ba_list] at h2
    exact tokens_good s w hM T h1 h2 h3
end Go.Proofs.Ytbkmlldhjchhjaa
