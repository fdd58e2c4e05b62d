/-
  Layer 8: contract of the law SemiComments.
-/
import Derived.Test.YtbkmlldhjchhjaaTn
import Derived.Lib.AppendStr
namespace Go.Proofs.Ytbkmlldhjchhjaa
open Go.ChangeShapes Go.WideShapes Go.ChangeAt Go.RowKit

theorem info5c : (Try.prog.info? 5).map (fun i => (i.zero, i.size, i.bytes)) = some (some (.int .u8 0), 1, 1) := by kernel_rfl
theorem own_below {w w' : World} {B : Nat} {e : TypeId} {size n : Nat} {v : Value} {xs : List Value} (h : w.ownsRow B e size v n xs) (hB : Below w.heap.size w w') : w'.ownsRow B e size v n xs := by
  refine ⟨h.1, ?_⟩
  rcases h.2 with h | ⟨g, cap, cur, e, hb, hg, r⟩
  · exact .inl h
  · exact .inr ⟨g, cap, cur, e, hb, by rw [hB.block g (Array.getElem?_eq_some_iff.1 hg).1]; exact hg, r⟩
theorem com_step {l : List UInt8} {T : List (Nat × Nat × Nat)} {k : Nat} {x : Nat × Nat × Nat} (hx : T[k]? = some x) : comT (texts l (T.take (k + 1))) = comT (texts l (T.take k)) ++ com (x.1, textAt l x) := by
  obtain ⟨h1, h2⟩ := List.getElem?_eq_some_iff.1 hx
  rw [List.take_succ_eq_append_getElem h1, h2]
  unfold texts comT
  rw [List.map_append, List.flatMap_append]
  simp [textAt]
theorem com_le {l : List UInt8} (T : List (Nat × Nat × Nat)) (k : Nat) : (comT (texts l (T.take k))).length ≤ (comT (texts l T)).length := by
  conv => rhs; rw [← List.take_append_drop k T]
  unfold texts comT
  rw [List.map_append, List.flatMap_append, List.length_append]
  omega
theorem own_len {w : World} {B : Nat} {e : TypeId} {n : Nat} {v : Value} {xs : List Value} (h : w.ownsRow B e 1 v n xs) : ∃ a cap, v = .slice a n cap := by
  rcases h.2 with ⟨rfl, h0⟩ | ⟨g, cap, cur, rfl, _⟩
  · exact ⟨none, 0, by rw [h0]⟩
  · exact ⟨_, _, rfl⟩
/-- 10 if there is one among the bytes, else 32 -/
def nlB (x : List UInt8) : UInt8 := if x.contains 10 = true then 10 else 32
theorem nlB_step (x : List UInt8) (c : UInt8) : nlB (x ++ [c]) = if c = 10 then 10 else nlB x := by
  unfold nlB
  by_cases h : c = 10
  · subst h; rw [if_pos (by simp), if_pos rfl]
  · rw [if_neg h]
    have : (x ++ [c]).contains 10 = x.contains 10 := by
      rw [Bool.eq_iff_iff]
      simp only [List.contains_iff_mem, List.mem_append, List.mem_singleton]
      constructor
      · rintro (h1 | h1)
        · exact h1
        · exact absurd h1.symm h
      · exact .inl
    rw [this]
theorem take_byte (X : ByteArray) (j : Nat) (h : j < X.size) : X.data.toList.take (j + 1) = X.data.toList.take j ++ [X[j]] := by
  have := at_of X j h
  obtain ⟨h1, h2⟩ := List.getElem?_eq_some_iff.1 this
  rw [List.take_succ_eq_append_getElem h1, h2]
set_option maxRecDepth 100000 in
set_option maxHeartbeats 4000000 in
theorem comments_bad (s : ByteArray) (w : World) (hM : Mx w) (f g : Int) (hA : allAns s.data.toList = ([], f, g)) (hf : f ≠ 0) :
    Calls Try.prog 11 #[.string s] w fun e w' => e = .returned (.bool true) ∧ Below w.heap.size w w' := by
  have hM0 := hM.lt
  have HM := Lib.hid hM
  clear hM
  have h1 := fun w hM => all_toks s w hM
  rw [hA] at h1
  have h2 := fun w hM => semi_toks s w hM
  rw [sem_bad hA hf] at h2
  have hne := fun w => fault_neq f g w
  rw [decide_eq_false hf] at hne
  have hnS := fun w => fault_neqS f g w
  have heq := fun w => fault_eq f g w
  have hgd := fun u v w => fault_ngd u v #[.int .i64 f, .int .i64 g] #[.int .i64 0, .int .i64 0] w
  have hgS := fun u v w => fault_ngd u v #[.int .i64 f, .int .i64 g] #[.int .i64 f, .int .i64 g] w
  have hge := fun u v w => fault_guard u v #[.int .i64 f, .int .i64 g] #[.int .i64 f, .int .i64 g] w
  clear hA hf
  go_enter Try.func11, Try.ntmps11
  go_wp2_with (first
    | (go_at_call 22; refine (h1 _ HM.out).mono ?_; rintro e w1 ⟨⟨a, ca, rfl, hTa, hLn⟩, hB1⟩; clear hTa hLn)
    | (refine wpList_store_rowTo rfl 33 (.tmp 4) (.tmp 18) rfl rfl w1.heap.size #[.int .i64 f, .int .i64 g] rfl rfl 33 #[.int .i64 0, .int .i64 0] (heap_alloc_new w1 _) info33 rfl (by simp [Value.oneCell']) ?_; have hX1 := setRow_heap _ w1.heap.size _ #[.int .i64 f, .int .i64 g] _ _ (heap_alloc_new w1 (.cells #[.int .i64 0, .int .i64 0] 33)); have hY1 : Below w1.heap.size w1 _ := below_setRow ((Below.refl _ w1).alloc (Nat.le_refl _) (.cells #[.int .i64 0, .int .i64 0] 33)) (Nat.le_refl _) #[.int .i64 f, .int .i64 g]; have hz1 : w1.heap.size < ((w1.alloc (.cells #[.int .i64 0, .int .i64 0] 33)).setRow w1.heap.size #[.int .i64 f, .int .i64 g]).heap.size := (Array.getElem?_eq_some_iff.1 hX1).1; generalize (w1.alloc (.cells #[.int .i64 0, .int .i64 0] 33)).setRow w1.heap.size #[.int .i64 f, .int .i64 g] = W1 at hX1 hY1 hz1 ⊢; have a0 := cell_of_row _ _ 0 _ _ _ hX1; have a1 := cell_of_row _ _ 1 _ _ _ hX1; simp only [List.getElem?_toArray, List.getElem?_cons_zero, List.getElem?_cons_succ] at a0 a1; have hBw := hB1.trans (hY1.mono hB1.size); clear hX1 hY1 hB1 hz1)
    | (go_at_call 29; refine (h2 _ (HM.out.below hBw hM0)).mono ?_; rintro e w2 ⟨⟨b, cb, rfl, hTb, hLn⟩, hB2⟩; clear hTb hLn; replace a0 := (hB2.cell (p := ⟨_, _, none⟩) (cell_lt a0)).trans a0; replace a1 := (hB2.cell (p := ⟨_, _, none⟩) (cell_lt a1)).trans a1; replace hBw := below_chain hBw hB2; clear hB2)
    | (refine wpList_store_rowTo rfl 33 (.tmp 6) (.tmp 23) rfl rfl w2.heap.size #[.int .i64 f, .int .i64 g] rfl rfl 33 #[.int .i64 0, .int .i64 0] (heap_alloc_new w2 _) info33 rfl (by simp [Value.oneCell']) ?_; have hX1 := setRow_heap _ w2.heap.size _ #[.int .i64 f, .int .i64 g] _ _ (heap_alloc_new w2 (.cells #[.int .i64 0, .int .i64 0] 33)); have hY1 : Below w2.heap.size w2 _ := below_setRow ((Below.refl _ w2).alloc (Nat.le_refl _) (.cells #[.int .i64 0, .int .i64 0] 33)) (Nat.le_refl _) #[.int .i64 f, .int .i64 g]; have hz1 : w2.heap.size < ((w2.alloc (.cells #[.int .i64 0, .int .i64 0] 33)).setRow w2.heap.size #[.int .i64 f, .int .i64 g]).heap.size := (Array.getElem?_eq_some_iff.1 hX1).1; generalize (w2.alloc (.cells #[.int .i64 0, .int .i64 0] 33)).setRow w2.heap.size #[.int .i64 f, .int .i64 g] = W2 at hX1 hY1 hz1 ⊢; have b0 := cell_of_row _ _ 0 _ _ _ hX1; have b1 := cell_of_row _ _ 1 _ _ _ hX1; simp only [List.getElem?_toArray, List.getElem?_cons_zero, List.getElem?_cons_succ] at b0 b1; replace a0 := (hY1.cell (p := ⟨_, _, none⟩) (cell_lt a0)).trans a0; replace a1 := (hY1.cell (p := ⟨_, _, none⟩) (cell_lt a1)).trans a1; replace hBw := below_chain hBw hY1; clear hX1 hY1 hz1)
    | (go_at_call 26; refine (fixed8_any _ (HM.out.below hBw hM0)).mono ?_; rintro e w3 ⟨rfl, hB2⟩; replace a0 := (hB2.cell (p := ⟨_, _, none⟩) (cell_lt a0)).trans a0; replace a1 := (hB2.cell (p := ⟨_, _, none⟩) (cell_lt a1)).trans a1; replace b0 := (hB2.cell (p := ⟨_, _, none⟩) (cell_lt b0)).trans b0; replace b1 := (hB2.cell (p := ⟨_, _, none⟩) (cell_lt b1)).trans b1; replace hBw := below_chain hBw hB2; clear hB2))
  go_ret
  exact ⟨rfl, hBw⟩
set_option maxRecDepth 100000 in
set_option maxHeartbeats 16000000 in
theorem comments_good (s : ByteArray) (w : World) (hM : Mx w) (T : List (Nat × Nat × Nat)) (hA : allAns s.data.toList = (T, 0, 0)) (hs : s.size ≤ 65536) (hT : Tiles s.data.toList 0 T) :
    Calls Try.prog 11 #[.string s] w fun e w' => e = .returned (.bool true) ∧ Below w.heap.size w w' := by
  obtain ⟨S, hS, hE, hlen⟩ := com_all hA
  rw [ba_list] at hlen
  obtain ⟨i0, hi, hy0, hy1, hy2⟩ := info_parts info5c
  have hM0 := hM.lt
  have HM := Lib.hid hM
  clear hM
  have h1 := fun w hM => all_toks s w hM
  rw [hA] at h1
  have h2 := fun w hM => semi_toks s w hM
  rw [sem_good hA] at h2
  have hOT := tiles_ord T 0 hT
  rw [ba_list] at hOT
  have hOr := sems_ord (l := s.data.toList) T 0 0 none hT (Nat.le_refl _) (Nat.zero_le _) (fun z h => by cases h)
  rw [ba_list] at hOr
  obtain ⟨L, hL⟩ : ∃ L, L = sems s.data.toList none T := ⟨_, rfl⟩
  rw [← hL] at h2 hOr hE
  have HLB := Lib.hid (ord_mem L 0 hOr)
  obtain ⟨B, hB⟩ : ∃ B : ByteArray, B = ⟨(comT (texts s.data.toList T)).toArray⟩ := ⟨_, rfl⟩
  have hBl : B.data.toList = comT (texts s.data.toList T) := by rw [hB]
  have hBs : B.size ≤ 65536 := by rw [← ba_list, hBl]; omega
  rw [← hBl] at hS hE
  have h3 := fun w hM => semi_toks B w hM
  rw [sem_good hS] at h3
  have hOS := sems_ord (l := B.data.toList) S 0 0 none (all_tiles hS).2.2 (Nat.le_refl _) (Nat.zero_le _) (fun z h => by cases h)
  rw [ba_list] at hOS
  obtain ⟨M, hM⟩ : ∃ M, M = sems B.data.toList none S := ⟨_, rfl⟩
  rw [← hM] at h3 hE hOS
  have HMB := Lib.hid (ord_mem M 0 hOS)
  have hTb := tiles_bounds T 0 hT
  rw [ba_list] at hTb
  obtain ⟨n, hn⟩ : ∃ n, n = T.length := ⟨_, rfl⟩
  obtain ⟨m, hm⟩ : ∃ m, m = L.length := ⟨_, rfl⟩
  obtain ⟨m2, hm2⟩ : ∃ m2, m2 = M.length := ⟨_, rfl⟩
  have hin1 : ∀ w b cb, Toks w b T → n ≤ maxLen → Calls Try.prog 30 #[.string s, .slice b n cb] w fun e w' => e = .returned (.bool true) ∧ Below w.heap.size w w' := fun w b cb h hl => by
    rw [hn]; exact inside_any s (by omega) w b cb T h hOT (by rw [← hn]; exact hl)
  have hin2 : ∀ w b cb, Toks w b L → m ≤ maxLen → Calls Try.prog 30 #[.string s, .slice b m cb] w fun e w' => e = .returned (.bool true) ∧ Below w.heap.size w w' := fun w b cb h hl => by
    rw [hm]; exact inside_any s (by omega) w b cb L h hOr (by rw [← hm]; exact hl)
  have hal : ∀ w a ca b cb, Toks w a L → Toks w b M → m ≤ maxLen → Calls Try.prog 31 #[.string s, .slice a m ca, .string B, .slice b m2 cb] w fun e w' => e = .returned (.bool true) ∧ Below w.heap.size w w' := fun w a ca b cb h h' hl => by
    rw [hm, hm2]; exact alike_any s B w a b ca cb L M h h' (by rw [← hm]; exact hl) HLB.out HMB.out hE.symm
  dsimp only at h1 h2 h3
  rw [← hn] at h1
  rw [← hm] at h2
  rw [← hm2] at h3
  have hne := fun w => fault_neq 0 0 w
  rw [show (!(decide ((0 : Int) = 0) && decide ((0 : Int) = 0))) = false from rfl] at hne
  have hgd := fun u v w => fault_ngd u v #[.int .i64 0, .int .i64 0] #[.int .i64 0, .int .i64 0] w
  have HEQ := Lib.hid (fun w => fault_eq 0 0 w)
  have HGE := Lib.hid (fun u v w => fault_guard u v #[.int .i64 0, .int .i64 0] #[.int .i64 0, .int .i64 0] w)
  have HN := Lib.hid hn
  have HBL := Lib.hid hBl
  have HTB := Lib.hid hTb
  have HBS := Lib.hid hBs
  clear hA hn hm hm2 hT hL hOr hOT hS hE hlen hB hBl hOS hM hTb hBs
  have TOK1 := True.intro
  have TOK2 := True.intro
  go_enter Try.func11, Try.ntmps11
  go_wp2_with (first
    | (go_at_call 22; refine (h1 _ HM.out).mono ?_; rintro e w1 ⟨⟨a, ca, rfl, hTa, hLn⟩, hB1⟩; have HLn := Lib.hid hLn; unfold maxLen at hLn; have HTA := Lib.hid hTa; clear hTa)
    | (refine wpList_store_rowTo rfl 33 (.tmp 4) (.tmp 18) rfl rfl w1.heap.size #[.int .i64 0, .int .i64 0] rfl rfl 33 #[.int .i64 0, .int .i64 0] (heap_alloc_new w1 _) info33 rfl (by simp [Value.oneCell']) ?_; have hX1 := setRow_heap _ w1.heap.size _ #[.int .i64 0, .int .i64 0] _ _ (heap_alloc_new w1 (.cells #[.int .i64 0, .int .i64 0] 33)); have hY1 : Below w1.heap.size w1 _ := below_setRow ((Below.refl _ w1).alloc (Nat.le_refl _) (.cells #[.int .i64 0, .int .i64 0] 33)) (Nat.le_refl _) #[.int .i64 0, .int .i64 0]; have hz1 : w1.heap.size < ((w1.alloc (.cells #[.int .i64 0, .int .i64 0] 33)).setRow w1.heap.size #[.int .i64 0, .int .i64 0]).heap.size := (Array.getElem?_eq_some_iff.1 hX1).1; generalize (w1.alloc (.cells #[.int .i64 0, .int .i64 0] 33)).setRow w1.heap.size #[.int .i64 0, .int .i64 0] = W1 at hX1 hY1 hz1 ⊢; have a0 := cell_of_row _ _ 0 _ _ _ hX1; have a1 := cell_of_row _ _ 1 _ _ _ hX1; simp only [List.getElem?_toArray, List.getElem?_cons_zero, List.getElem?_cons_succ] at a0 a1; have hBw := hB1.trans (hY1.mono hB1.size); replace HTA := Lib.hid (HTA.out.below hY1); clear hX1 hY1 hB1 hz1)
    | (go_at_call 29; refine (h2 _ (HM.out.below hBw hM0)).mono ?_; rintro e w2 ⟨⟨b, cb, rfl, hTb, hLm⟩, hB2⟩; have HLm := Lib.hid hLm; unfold maxLen at hLm; have HTL := Lib.hid hTb; clear hTb; replace a0 := (hB2.cell (p := ⟨_, _, none⟩) (cell_lt a0)).trans a0; replace a1 := (hB2.cell (p := ⟨_, _, none⟩) (cell_lt a1)).trans a1; replace HTA := Lib.hid (HTA.out.below hB2); replace hBw := below_chain hBw hB2; clear hB2)
    | (refine wpList_store_rowTo rfl 33 (.tmp 6) (.tmp 23) rfl rfl w2.heap.size #[.int .i64 0, .int .i64 0] rfl rfl 33 #[.int .i64 0, .int .i64 0] (heap_alloc_new w2 _) info33 rfl (by simp [Value.oneCell']) ?_; have hX1 := setRow_heap _ w2.heap.size _ #[.int .i64 0, .int .i64 0] _ _ (heap_alloc_new w2 (.cells #[.int .i64 0, .int .i64 0] 33)); have hY1 : Below w2.heap.size w2 _ := below_setRow ((Below.refl _ w2).alloc (Nat.le_refl _) (.cells #[.int .i64 0, .int .i64 0] 33)) (Nat.le_refl _) #[.int .i64 0, .int .i64 0]; have hz1 : w2.heap.size < ((w2.alloc (.cells #[.int .i64 0, .int .i64 0] 33)).setRow w2.heap.size #[.int .i64 0, .int .i64 0]).heap.size := (Array.getElem?_eq_some_iff.1 hX1).1; generalize (w2.alloc (.cells #[.int .i64 0, .int .i64 0] 33)).setRow w2.heap.size #[.int .i64 0, .int .i64 0] = W2 at hX1 hY1 hz1 ⊢; have b0 := cell_of_row _ _ 0 _ _ _ hX1; have b1 := cell_of_row _ _ 1 _ _ _ hX1; simp only [List.getElem?_toArray, List.getElem?_cons_zero, List.getElem?_cons_succ] at b0 b1; replace a0 := (hY1.cell (p := ⟨_, _, none⟩) (cell_lt a0)).trans a0; replace a1 := (hY1.cell (p := ⟨_, _, none⟩) (cell_lt a1)).trans a1; replace HTA := Lib.hid (HTA.out.below hY1); replace HTL := Lib.hid (HTL.out.below hY1); replace hBw := below_chain hBw hY1; clear hX1 hY1 hz1)
    | (go_at_call 26; refine (fixed8_any _ (HM.out.below hBw hM0)).mono ?_; rintro e w3 ⟨rfl, hB2⟩; replace a0 := (hB2.cell (p := ⟨_, _, none⟩) (cell_lt a0)).trans a0; replace a1 := (hB2.cell (p := ⟨_, _, none⟩) (cell_lt a1)).trans a1; replace b0 := (hB2.cell (p := ⟨_, _, none⟩) (cell_lt b0)).trans b0; replace b1 := (hB2.cell (p := ⟨_, _, none⟩) (cell_lt b1)).trans b1; replace HTA := Lib.hid (HTA.out.below hB2); replace HTL := Lib.hid (HTL.out.below hB2); replace hBw := below_chain hBw hB2; clear hB2)
    | (go_at_call 30; clear TOK1; (with_reducible refine (hin1 _ a ca HTA.out HLn.out).mono ?_); rintro e w4 ⟨rfl, hB2⟩; replace HTA := Lib.hid (HTA.out.below hB2); replace HTL := Lib.hid (HTL.out.below hB2); replace hBw := below_chain hBw hB2; clear hB2 a0 a1 b0 b1)
    | (go_at_call 30; clear TOK2; (with_reducible refine (hin2 _ b cb HTL.out HLm.out).mono ?_); rintro e w4 ⟨rfl, hB2⟩; replace HTA := Lib.hid (HTA.out.below hB2); replace HTL := Lib.hid (HTL.out.below hB2); replace hBw := below_chain hBw hB2; clear hB2))
  clear hne hgd h1 h2 hin1 hin2
  have HBW := Lib.hid hBw
  clear hBw
  obtain ⟨d, hd⟩ : ∃ d, d = w4.heap.size := ⟨_, rfl⟩
  have HD := Lib.hid hd
  clear hd
  go_loopw [7, 8] (fun tv kv wr => ∃ (k : Nat) (v : Value) (A : List UInt8), k ≤ n ∧ v = tv ∧ kv = .int .i64 k ∧ A.length ≤ B.size ∧ Hid (A = comT (texts s.data.toList (T.take k))) ∧ Hid (wr.ownsRow d 5 1 v A.length (bvals A)) ∧ Hid (Below d w4 wr)) (fun _ kv _ => n - (intOf kv).toNat)
  case atStart => exact ⟨0, _, [], by omega, rfl, rfl, Nat.zero_le _, Lib.hid rfl, Lib.hid (World.ownsRow_nil _ _ _ _), Lib.hid (Below.refl _ _)⟩
  case round =>
    obtain ⟨k, v, A, hk, rfl, rfl, hAs, hAl, HOW, HBL0⟩ := hrel
    have hbs := HBS.out
    by_cases hlt : k < n
    · have j1 : (k : Int) < n := by omega
      have hkl : k < T.length := by rw [← HN.out]; exact hlt
      obtain ⟨⟨K, p, z⟩, hx⟩ : ∃ x, T[k]? = some x := ⟨T[k]'hkl, List.getElem?_eq_getElem hkl⟩
      obtain ⟨b1, b2⟩ := HTB.out _ (List.mem_of_getElem? hx)
      have hst := com_step (l := s.data.toList) hx
      have hle := com_le (l := s.data.toList) T (k + 1)
      rw [← HBL.out, ba_list] at hle
      dsimp only at b1 b2 hst
      have hst2 : comT (texts s.data.toList (T.take (k + 1))) = A ++ com (K, textAt s.data.toList (K, p, z)) := by rw [hst, ← hAl.out]
      rw [hst2, List.length_append] at hle
      have HST := Lib.hid hst2
      obtain ⟨g, rfl, c0, c1, c2⟩ := (HTA.out.below (by rw [← HD.out]; exact HBL0.out)) k _ hx
      dsimp only at c0 c1 c2
      obtain ⟨X, hX⟩ : ∃ X, X = s.extract p z := ⟨_, rfl⟩
      have hXl : X.data.toList = textAt s.data.toList (K, p, z) := by rw [hX, Num.extract_take]; rfl
      have hXs : X.size ≤ 65536 := by rw [hX, ByteArray.size_extract]; omega
      have hsl := fun w => slice_str s p z (by omega) (by omega) w
      rw [← hX] at hsl
      rw [← hXl] at hle
      have HST2 := Lib.hid (show comT (texts s.data.toList (T.take (k + 1))) = A ++ com (K, X.data.toList) by rw [HST.out, hXl])
      have hgl : g < wr.heap.size := cell_lt c0
      have HC0 := Lib.hid c0
      have j0 : (0 : Int) ≤ k := by omega
      have j2 : (p : Int) < z := by omega
      have j3 : (z : Int) ≤ s.size := by omega
      have j4 : (0 : Int) ≤ p := by omega
      clear hst hst2 HST hx hkl hX hXl hAl
      go_wp2
      go_quiet (fail)
      go_wp2
      obtain ⟨wo, rfl⟩ : ∃ wo : World, wo = wr := ⟨_, rfl⟩
      clear c0 c1 c2
      go_loopw [10, 11] (fun cv jv wy => ∃ (j : Nat), j ≤ X.size ∧ jv = .int .i64 j ∧ cv = .int .u8 ((nlB (X.data.toList.take j)).toNat : Int) ∧ Hid (Below d w4 wy) ∧ Hid (wy.ownsRow d 5 1 v A.length (bvals A)) ∧ Hid (wy.cell? ⟨g, k * 3, none⟩ = some (.int .u8 K))) (fun _ jv _ => X.size - (intOf jv).toNat)
      case atStart => exact ⟨0, Nat.zero_le _, rfl, rfl, Lib.hid (below_drewN HBL0.out _), Lib.hid HOW.out, Lib.hid HC0.out⟩
      case round =>
        clear HOW HBL0 HC0
        obtain ⟨j, hj, rfl, rfl, HBL0, HOW, HC0⟩ := hrel
        by_cases hjl : j < X.size
        · have i1 : (j : Int) < X.size := by omega
          have i2 : (0 : Int) ≤ j := by omega
          have b10 := bytes_n X[j] 10 10 rfl
          have hnl : nlB (X.data.toList.take (j + 1)) = if X[j] = 10 then 10 else nlB (X.data.toList.take j) := by rw [take_byte X j hjl, nlB_step]
          have HNL := Lib.hid hnl
          clear hnl
          by_cases h10 : X[j] = 10
          · rw [decide_eq_true h10] at b10
            have HNE := Lib.hid (show nlB (X.data.toList.take (j + 1)) = 10 by rw [HNL.out, if_pos h10])
            clear h10
            go_wp2
            go_roundw
            case rel => exact ⟨j + 1, by omega, by go_num, by rw [HNE.out]; rfl, HBL0, HOW, HC0⟩
            case measure => simp [intOf]; omega
          · rw [decide_eq_false h10] at b10
            have HNE := Lib.hid (show nlB (X.data.toList.take (j + 1)) = nlB (X.data.toList.take j) by rw [HNL.out, if_neg h10])
            clear h10
            go_wp2
            go_roundw
            case rel => exact ⟨j + 1, by omega, by go_num, by rw [HNE.out], HBL0, HOW, HC0⟩
            case measure => simp [intOf]; omega
        · obtain rfl : j = X.size := by omega
          have hall : X.data.toList.take X.size = X.data.toList := List.take_of_length_le (by rw [ba_list]; exact Nat.le_refl _)
          rw [hall]
          obtain ⟨c, hc⟩ : ∃ c, c = nlB X.data.toList := ⟨_, rfl⟩
          rw [← hc]
          have c0 := HC0.out
          have hz := HBL0.out.size
          rw [← HD.out] at hz
          have HCC := Lib.hid hc
          clear hall hc
          by_cases h11 : K = 11
          · have k1 : ((K : Int) == 11) = true := int_is (b := 11) h11
            have HCM := Lib.hid (show com (K, X.data.toList) = [10] by rw [h11]; rfl)
            rw [HCM.out] at hle
            clear h11
            go_wp2_with (at_builtin; refine wpList_append_own _ rfl _ _ 39 rfl d 5 i0 (.int .u8 0) 1 1 Try.underlying39 hi hy0 hy1 hy2 rfl (by decide) _ _ _ rfl (HOW.out.alloc _) ⟨wr.heap.size, 0, none⟩ 1 1 [.int .u8 10] rfl rfl ?c1 ?c2 ?c3 ?c4 ?c5 ?_)
            case c1 => exact cell_one_new _ _ _
            case c2 => intro u hu; simp at hu; subst hu; rfl
            case c3 => unfold maxLen; omega
            case c4 => omega
            case c5 => simp; omega
            · intro v4 w5 hown4 hg4 _
              have hO4 := Lib.hid (show w5.ownsRow d 5 1 v4 (A ++ [10]).length (bvals (A ++ [10])) by rw [List.length_append, bvals_app]; exact hown4)
              have hB4 := Lib.hid ((HBL0.out.alloc hz _).grown hg4 (by simp; omega) (fun q hq => (HOW.out.lt q hq).1))
              clear hown4 hg4
              go_wp2
              go_roundw
              case rel => exact ⟨k + 1, v4, A ++ [10], by omega, rfl, by go_num, by rw [List.length_append]; exact hle, Lib.hid (by rw [HST2.out, HCM.out]), hO4, hB4⟩
              case measure => simp [intOf]; omega
          · have k1 : ((K : Int) == 11) = false := int_not (b := 11) h11
            by_cases h12 : K = 12
            · have k2 : ((K : Int) == 12) = true := int_is (b := 12) h12
              have HCM := Lib.hid (show com (K, X.data.toList) = [c] by rw [h12, HCC.out]; unfold com nlB; rw [if_neg (show ¬ (12 : Nat) = 11 by decide), if_pos rfl]; split <;> rfl)
              rw [HCM.out] at hle
              clear h11 h12
              go_wp2_with (at_builtin; refine wpList_append_own _ rfl _ _ 39 rfl d 5 i0 (.int .u8 0) 1 1 Try.underlying39 hi hy0 hy1 hy2 rfl (by decide) _ _ _ rfl (HOW.out.alloc _) ⟨wr.heap.size, 0, none⟩ 1 1 [.int .u8 (c.toNat : Int)] rfl rfl ?c1 ?c2 ?c3 ?c4 ?c5 ?_)
              case c1 => exact cell_one_new _ _ _
              case c2 => intro u hu; simp at hu; subst hu; rfl
              case c3 => unfold maxLen; omega
              case c4 => omega
              case c5 => simp; omega
              · intro v4 w5 hown4 hg4 _
                have hO4 := Lib.hid (show w5.ownsRow d 5 1 v4 (A ++ [c]).length (bvals (A ++ [c])) by rw [List.length_append, bvals_app]; exact hown4)
                have hB4 := Lib.hid ((HBL0.out.alloc hz _).grown hg4 (by simp; omega) (fun q hq => (HOW.out.lt q hq).1))
                clear hown4 hg4
                go_wp2
                go_roundw
                case rel => exact ⟨k + 1, v4, A ++ [c], by omega, rfl, by go_num, by rw [List.length_append]; exact hle, Lib.hid (by rw [HST2.out, HCM.out]), hO4, hB4⟩
                case measure => simp [intOf]; omega
            · have k2 : ((K : Int) == 12) = false := int_not (b := 12) h12
              have HCM := Lib.hid (show com (K, X.data.toList) = X.data.toList by unfold com; rw [if_neg h11, if_neg h12])
              rw [HCM.out, ba_list] at hle
              clear h11 h12
              go_wp2_with (at_builtin; refine Lib.wpList_append_own_string _ rfl _ _ 39 9 rfl d 5 i0 Try.underlying39 Try.underlying9 hi hy0 hy1 hy2 _ _ _ rfl HOW.out X rfl ?c1 ?c2 ?c3 ?_)
              case c1 => unfold maxLen; omega
              case c2 => omega
              case c3 => exact hz
              · intro v4 w5 hown4 hg4 _
                have hO4 := Lib.hid (show w5.ownsRow d 5 1 v4 (A ++ X.data.toList).length (bvals (A ++ X.data.toList)) by rw [List.length_append, ba_list, bvals_app]; exact hown4)
                have hB4 := Lib.hid (HBL0.out.grown hg4 hz (fun q hq => (HOW.out.lt q hq).1))
                clear hown4 hg4
                go_wp2
                go_roundw
                case rel => exact ⟨k + 1, v4, A ++ X.data.toList, by omega, rfl, by go_num, by rw [List.length_append, ba_list]; exact hle, Lib.hid (by rw [HST2.out, HCM.out]), hO4, hB4⟩
                case measure => simp [intOf]; omega
    · obtain rfl : k = n := by omega
      have hAB : A = B.data.toList := by rw [hAl.out, HBL.out, HN.out, List.take_length]
      obtain ⟨a', cap', hv⟩ := own_len HOW.out
      have hAl' : A.length = B.size := by rw [hAB, ba_list]
      have hcv := conv_own HOW.out
      have hBB : (⟨A.toArray⟩ : ByteArray) = B := ba_ext (by rw [hAB])
      rw [hBB, hv, hAl'] at hcv
      have hOB := Lib.hid (show wr.ownsRow d 5 1 (.slice a' B.size cap') A.length (bvals A) by rw [← hAl', ← hv]; exact HOW.out)
      rw [hAl'] at hv
      have HBLx := Lib.hid hBB
      have HAL := Lib.hid hAl'
      subst hv
      have hbs' := hbs
      have heq := HEQ.out
      have hge := HGE.out
      have hz := HBL0.out.size
      rw [← HD.out] at hz
      have HBA := Lib.hid (HBW.out.trans (HBL0.out.mono (by rw [HD.out]; exact HBW.out.size)))
      have HTA2 := Lib.hid (HTL.out.below (by rw [← HD.out]; exact HBL0.out))
      clear hAl hAB hAl' hBB HOW HBL0 HTA HTL HBW
      go_wp2_with (first
        | (go_at_call 29; refine (h3 _ (HM.out.below HBA.out hM0)).mono ?_; rintro e w5 ⟨⟨b5, cb5, rfl, hTb, hLm5⟩, hB1⟩; unfold maxLen at hLm5; have HTM := Lib.hid hTb; replace HTA2 := Lib.hid (HTA2.out.below hB1); replace hOB := Lib.hid (own_below hOB.out hB1); replace HBA := Lib.hid (HBA.out.trans (hB1.mono HBA.out.size)); clear hTb hB1 hcv)
        | (refine wpList_store_rowTo rfl 33 (.tmp 13) (.tmp 112) rfl rfl w5.heap.size #[.int .i64 0, .int .i64 0] rfl rfl 33 #[.int .i64 0, .int .i64 0] (heap_alloc_new w5 _) info33 rfl (by simp [Value.oneCell']) ?_; have hX1 := setRow_heap _ w5.heap.size _ #[.int .i64 0, .int .i64 0] _ _ (heap_alloc_new w5 (.cells #[.int .i64 0, .int .i64 0] 33)); have hY1 : Below w5.heap.size w5 _ := below_setRow ((Below.refl _ w5).alloc (Nat.le_refl _) (.cells #[.int .i64 0, .int .i64 0] 33)) (Nat.le_refl _) #[.int .i64 0, .int .i64 0]; have hz1 : w5.heap.size < ((w5.alloc (.cells #[.int .i64 0, .int .i64 0] 33)).setRow w5.heap.size #[.int .i64 0, .int .i64 0]).heap.size := (Array.getElem?_eq_some_iff.1 hX1).1; generalize (w5.alloc (.cells #[.int .i64 0, .int .i64 0] 33)).setRow w5.heap.size #[.int .i64 0, .int .i64 0] = W5 at hX1 hY1 hz1 ⊢; have a0 := cell_of_row _ _ 0 _ _ _ hX1; have a1 := cell_of_row _ _ 1 _ _ _ hX1; simp only [List.getElem?_toArray, List.getElem?_cons_zero, List.getElem?_cons_succ] at a0 a1; replace HTA2 := Lib.hid (HTA2.out.below hY1); replace HTM := Lib.hid (HTM.out.below hY1); replace hOB := Lib.hid (own_below hOB.out hY1); replace HBA := Lib.hid (HBA.out.trans (hY1.mono HBA.out.size)); have hcv := conv_own hOB.out; rw [HBLx.out] at hcv; clear hX1 hY1 hz1)
        | (go_at_call 31; refine (hal _ b cb b5 cb5 HTA2.out HTM.out HLm.out).mono ?_; rintro e w6 ⟨rfl, hB5⟩; have hBe := HBA.out.trans (hB5.mono HBA.out.size); clear hB5))
      go_ret
      exact ⟨rfl, hBe⟩
theorem lawcomments_any (s : ByteArray) (w : World) (hM : Mx w) :
    Calls Try.prog 11 #[.string s] w fun e w' => e = .returned (.bool true) ∧ Below w.heap.size w w' := by
  rcases all_cases s.data.toList with ⟨f, g, h1, h2, _, _⟩ | ⟨T, h1, h2, h3⟩
  · exact comments_bad s w hM f g h1 h2
  · rw [ba_list] at h2
    exact comments_good s w hM T h1 h2 h3
end Go.Proofs.Ytbkmlldhjchhjaa
