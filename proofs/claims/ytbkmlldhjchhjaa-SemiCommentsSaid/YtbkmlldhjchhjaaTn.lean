/-
  Layer 8: contract of the law SemiWritten.
-/
import Derived.Test.YtbkmlldhjchhjaaTm
namespace Go.Proofs.Ytbkmlldhjchhjaa
open Go.ChangeShapes Go.WideShapes Go.ChangeAt Go.RowKit

theorem written_step {l : List UInt8} {L : List (Nat × Nat × Nat)} {k : Nat} {x : Nat × Nat × Nat} (hx : L[k]? = some x) : written (toksT l (L.take (k + 1))) = written (toksT l (L.take k)) ++ 32 :: (tx (x.1, textAt l x)).2 := by
  obtain ⟨h1, h2⟩ := List.getElem?_eq_some_iff.1 hx
  rw [List.take_succ_eq_append_getElem h1, h2]
  unfold toksT
  rw [List.map_append, written_app]
  show _ ++ (32 :: ((tx (x.1, textAt l x)).2 ++ [])) = _
  rw [List.append_nil]
theorem written_le {l : List UInt8} (L : List (Nat × Nat × Nat)) (k : Nat) : (written (toksT l (L.take k))).length ≤ (written (toksT l L)).length := by
  conv => rhs; rw [← List.take_append_drop k L]
  unfold toksT
  rw [List.map_append, written_app, List.length_append]
  omega
set_option maxRecDepth 100000 in
set_option maxHeartbeats 4000000 in
theorem writ_bad (s : ByteArray) (w : World) (hM : Mx w) (f g : Int) (T : List (Nat × Nat × Nat)) (hA : semAns s.data.toList = (T, f, g)) (hf : f ≠ 0 ∨ (f = 0 ∧ g = 0 ∧ 4000 < s.size)) :
    Calls Try.prog 12 #[.string s] w fun e w' => e = .returned (.bool true) ∧ Below w.heap.size w w' := by
  have hM0 := hM.lt
  have HM := Lib.hid hM
  clear hM
  have h1 := fun w hM => semi_toks s w hM
  rw [hA] at h1
  have hne := fun w => fault_neq f g w
  have hgd := fun u v w => fault_ngd u v #[.int .i64 f, .int .i64 g] #[.int .i64 0, .int .i64 0] w
  rcases hf with hf | ⟨hf, hg, hs⟩
  · rw [decide_eq_false hf] at hne
    clear hA hf
    go_enter Try.func12, Try.ntmps12
    go_wp2_with (first
      | (go_at_call 29; refine (h1 _ HM.out).mono ?_; rintro e w1 ⟨⟨a, ca, rfl, hTa, hLn⟩, hB1⟩; clear hTa hLn)
      | (refine wpList_store_rowTo rfl 33 (.tmp 4) (.tmp 14) rfl rfl w1.heap.size #[.int .i64 f, .int .i64 g] rfl rfl 33 #[.int .i64 0, .int .i64 0] (heap_alloc_new w1 _) info33 rfl (by simp [Value.oneCell']) ?_; have hX1 := setRow_heap _ w1.heap.size _ #[.int .i64 f, .int .i64 g] _ _ (heap_alloc_new w1 (.cells #[.int .i64 0, .int .i64 0] 33)); have hY1 : Below w1.heap.size w1 _ := below_setRow ((Below.refl _ w1).alloc (Nat.le_refl _) (.cells #[.int .i64 0, .int .i64 0] 33)) (Nat.le_refl _) #[.int .i64 f, .int .i64 g]; have hz1 : w1.heap.size < ((w1.alloc (.cells #[.int .i64 0, .int .i64 0] 33)).setRow w1.heap.size #[.int .i64 f, .int .i64 g]).heap.size := (Array.getElem?_eq_some_iff.1 hX1).1; generalize (w1.alloc (.cells #[.int .i64 0, .int .i64 0] 33)).setRow w1.heap.size #[.int .i64 f, .int .i64 g] = W1 at hX1 hY1 hz1 ⊢; have a0 := cell_of_row _ _ 0 _ _ _ hX1; have a1 := cell_of_row _ _ 1 _ _ _ hX1; simp only [List.getElem?_toArray, List.getElem?_cons_zero, List.getElem?_cons_succ] at a0 a1; have hBw := hB1.trans (hY1.mono hB1.size); clear hX1 hY1 hB1 hz1)
      | (go_at_call 26; refine (fixed8_any _ (HM.out.below hBw hM0)).mono ?_; rintro e w2 ⟨rfl, hB2⟩; replace a0 := (hB2.cell (p := ⟨_, _, none⟩) (cell_lt a0)).trans a0; replace a1 := (hB2.cell (p := ⟨_, _, none⟩) (cell_lt a1)).trans a1; replace hBw := below_chain hBw hB2; clear hB2))
    go_ret
    exact ⟨rfl, hBw⟩
  · subst hf
    subst hg
    have i1 : (4000 : Int) < s.size := by omega
    clear hA hs
    go_enter Try.func12, Try.ntmps12
    go_wp2_with (first
      | (go_at_call 29; refine (h1 _ HM.out).mono ?_; rintro e w1 ⟨⟨a, ca, rfl, hTa, hLn⟩, hB1⟩; clear hTa hLn)
      | (refine wpList_store_rowTo rfl 33 (.tmp 4) (.tmp 14) rfl rfl w1.heap.size #[.int .i64 0, .int .i64 0] rfl rfl 33 #[.int .i64 0, .int .i64 0] (heap_alloc_new w1 _) info33 rfl (by simp [Value.oneCell']) ?_; have hX1 := setRow_heap _ w1.heap.size _ #[.int .i64 0, .int .i64 0] _ _ (heap_alloc_new w1 (.cells #[.int .i64 0, .int .i64 0] 33)); have hY1 : Below w1.heap.size w1 _ := below_setRow ((Below.refl _ w1).alloc (Nat.le_refl _) (.cells #[.int .i64 0, .int .i64 0] 33)) (Nat.le_refl _) #[.int .i64 0, .int .i64 0]; have hz1 : w1.heap.size < ((w1.alloc (.cells #[.int .i64 0, .int .i64 0] 33)).setRow w1.heap.size #[.int .i64 0, .int .i64 0]).heap.size := (Array.getElem?_eq_some_iff.1 hX1).1; generalize (w1.alloc (.cells #[.int .i64 0, .int .i64 0] 33)).setRow w1.heap.size #[.int .i64 0, .int .i64 0] = W1 at hX1 hY1 hz1 ⊢; have a0 := cell_of_row _ _ 0 _ _ _ hX1; have a1 := cell_of_row _ _ 1 _ _ _ hX1; simp only [List.getElem?_toArray, List.getElem?_cons_zero, List.getElem?_cons_succ] at a0 a1; have hBw := hB1.trans (hY1.mono hB1.size); clear hX1 hY1 hB1 hz1)
      | (go_at_call 26; refine (fixed8_any _ (HM.out.below hBw hM0)).mono ?_; rintro e w2 ⟨rfl, hB2⟩; replace a0 := (hB2.cell (p := ⟨_, _, none⟩) (cell_lt a0)).trans a0; replace a1 := (hB2.cell (p := ⟨_, _, none⟩) (cell_lt a1)).trans a1; replace hBw := below_chain hBw hB2; clear hB2))
    go_ret
    exact ⟨rfl, hBw⟩
set_option maxRecDepth 100000 in
set_option maxHeartbeats 16000000 in
theorem writ_good (s : ByteArray) (w : World) (hM : Mx w) (T : List (Nat × Nat × Nat)) (hA : allAns s.data.toList = (T, 0, 0)) (hs : s.size ≤ 4000) (hT : Tiles s.data.toList 0 T) :
    Calls Try.prog 12 #[.string s] w fun e w' => e = .returned (.bool true) ∧ Below w.heap.size w w' := by
  obtain ⟨S, hS, hE, hne0, hlen⟩ := written_all hA (by rw [ba_list]; exact hs)
  have hM0 := hM.lt
  have HM := Lib.hid hM
  clear hM
  have h1 := fun w hM => semi_toks s w hM
  rw [sem_good hA] at h1
  have hOr := sems_ord (l := s.data.toList) T 0 0 none hT (Nat.le_refl _) (Nat.zero_le _) (fun z h => by cases h)
  rw [ba_list] at hOr
  obtain ⟨L, hL⟩ : ∃ L, L = sems s.data.toList none T := ⟨_, rfl⟩
  rw [← hL] at h1 hOr hS hE hne0 hlen
  have HLB := Lib.hid (ord_mem L 0 hOr)
  obtain ⟨B, hB⟩ : ∃ B : ByteArray, B = ⟨(written (toksT s.data.toList L)).toArray⟩ := ⟨_, rfl⟩
  have hBl : B.data.toList = written (toksT s.data.toList L) := by rw [hB]
  have hBs : B.size ≤ 16000 := by rw [← ba_list, hBl]; exact hlen
  rw [← hBl] at hS hE hne0
  have h2 := fun w hM => semi_toks B w hM
  rw [sem_good hS] at h2
  have hOS := sems_ord (l := B.data.toList) S 0 0 none (all_tiles hS).2.2 (Nat.le_refl _) (Nat.zero_le _) (fun z h => by cases h)
  rw [ba_list] at hOS
  obtain ⟨M, hM⟩ : ∃ M, M = sems B.data.toList none S := ⟨_, rfl⟩
  rw [← hM] at h2 hE hne0 hOS
  have HMB := Lib.hid (ord_mem M 0 hOS)
  obtain ⟨n, hn⟩ : ∃ n, n = L.length := ⟨_, rfl⟩
  obtain ⟨m, hm⟩ : ∃ m, m = M.length := ⟨_, rfl⟩
  have hin : ∀ w b cb, Toks w b L → n ≤ maxLen → Calls Try.prog 30 #[.string s, .slice b n cb] w fun e w' => e = .returned (.bool true) ∧ Below w.heap.size w w' := fun w b cb h hl => by
    rw [hn]; exact inside_any s (by omega) w b cb L h hOr (by rw [← hn]; exact hl)
  have hal : ∀ w a ca b cb, Toks w a L → Toks w b M → n ≤ maxLen → Calls Try.prog 31 #[.string s, .slice a n ca, .string B, .slice b m cb] w fun e w' => e = .returned (.bool true) ∧ Below w.heap.size w w' := fun w a ca b cb h h' hl => by
    rw [hn, hm]; exact alike_any s B w a b ca cb L M h h' (by rw [← hn]; exact hl) HLB.out HMB.out hE.symm
  dsimp only at h1 h2
  rw [← hn] at h1
  rw [← hm] at h2
  have hne := fun w => fault_neq 0 0 w
  rw [show (!(decide ((0 : Int) = 0) && decide ((0 : Int) = 0))) = false from rfl] at hne
  have hgd := fun u v w => fault_ngd u v #[.int .i64 0, .int .i64 0] #[.int .i64 0, .int .i64 0] w
  have HEQ := Lib.hid (fun w => fault_eq 0 0 w)
  have HGE := Lib.hid (fun u v w => fault_guard u v #[.int .i64 0, .int .i64 0] #[.int .i64 0, .int .i64 0] w)
  have HN := Lib.hid hn
  have HMM := Lib.hid hm
  have HBL := Lib.hid hBl
  have HN0 := Lib.hid hne0
  have i1 : ¬ (4000 : Int) < s.size := by omega
  clear hA hn hm hT hL hOr hS hE hne0 hlen hB hBl hOS hM
  go_enter Try.func12, Try.ntmps12
  go_wp2_with (first
    | (go_at_call 29; refine (h1 _ HM.out).mono ?_; rintro e w1 ⟨⟨a, ca, rfl, hTa, hLn⟩, hB1⟩; have HLn := Lib.hid hLn; unfold maxLen at hLn; have HTA := Lib.hid hTa; clear hTa)
    | (refine wpList_store_rowTo rfl 33 (.tmp 4) (.tmp 14) rfl rfl w1.heap.size #[.int .i64 0, .int .i64 0] rfl rfl 33 #[.int .i64 0, .int .i64 0] (heap_alloc_new w1 _) info33 rfl (by simp [Value.oneCell']) ?_; have hX1 := setRow_heap _ w1.heap.size _ #[.int .i64 0, .int .i64 0] _ _ (heap_alloc_new w1 (.cells #[.int .i64 0, .int .i64 0] 33)); have hY1 : Below w1.heap.size w1 _ := below_setRow ((Below.refl _ w1).alloc (Nat.le_refl _) (.cells #[.int .i64 0, .int .i64 0] 33)) (Nat.le_refl _) #[.int .i64 0, .int .i64 0]; have hz1 : w1.heap.size < ((w1.alloc (.cells #[.int .i64 0, .int .i64 0] 33)).setRow w1.heap.size #[.int .i64 0, .int .i64 0]).heap.size := (Array.getElem?_eq_some_iff.1 hX1).1; generalize (w1.alloc (.cells #[.int .i64 0, .int .i64 0] 33)).setRow w1.heap.size #[.int .i64 0, .int .i64 0] = W1 at hX1 hY1 hz1 ⊢; have a0 := cell_of_row _ _ 0 _ _ _ hX1; have a1 := cell_of_row _ _ 1 _ _ _ hX1; simp only [List.getElem?_toArray, List.getElem?_cons_zero, List.getElem?_cons_succ] at a0 a1; have hBw := hB1.trans (hY1.mono hB1.size); replace HTA := Lib.hid (HTA.out.below hY1); clear hX1 hY1 hB1 hz1)
    | (go_at_call 26; refine (fixed8_any _ (HM.out.below hBw hM0)).mono ?_; rintro e w2 ⟨rfl, hB2⟩; replace a0 := (hB2.cell (p := ⟨_, _, none⟩) (cell_lt a0)).trans a0; replace a1 := (hB2.cell (p := ⟨_, _, none⟩) (cell_lt a1)).trans a1; replace HTA := Lib.hid (HTA.out.below hB2); replace hBw := below_chain hBw hB2; clear hB2)
    | (go_at_call 30; refine (hin _ a ca HTA.out HLn.out).mono ?_; rintro e w4 ⟨rfl, hB2⟩; replace HTA := Lib.hid (HTA.out.below hB2); replace hBw := below_chain hBw hB2; clear hB2 a0 a1))
  clear hne hgd h1 hin
  go_loopw [5, 6] (fun tv kv wr => ∃ (k : Nat) (A : ByteArray), k ≤ n ∧ A.size ≤ B.size ∧ tv = .string A ∧ kv = .int .i64 k ∧ Hid (A.data.toList = written (toksT s.data.toList (L.take k))) ∧ Below w.heap.size w wr ∧ Hid (Toks wr a L)) (fun _ kv _ => n - (intOf kv).toNat)
  case atStart => exact ⟨0, ⟨#[]⟩, by omega, Nat.zero_le _, rfl, rfl, rfl, hBw, HTA⟩
  case round =>
    clear HTA hBw
    obtain ⟨k, A, hk, hAs, rfl, rfl, hAl, hBw, HTA⟩ := hrel
    by_cases hlt : k < n
    · have j1 : (k : Int) < n := by omega
      have hkl : k < L.length := by rw [← HN.out]; exact hlt
      obtain ⟨⟨K, p, z⟩, hx⟩ : ∃ x, L[k]? = some x := ⟨L[k]'hkl, List.getElem?_eq_getElem hkl⟩
      obtain ⟨b1, b2⟩ := HLB.out _ (List.mem_of_getElem? hx)
      have hst := written_step (l := s.data.toList) hx
      have hle := written_le (l := s.data.toList) L (k + 1)
      rw [← HBL.out, ba_list] at hle
      dsimp only at b1 b2 hst
      obtain ⟨g, rfl, c0, c1, c2⟩ := HTA.out k _ hx
      dsimp only at c0 c1 c2
      have htx := fun w => text_any s K p z (fun _ => ⟨b1, b2⟩) w
      obtain ⟨Y, hY⟩ : ∃ Y : ByteArray, Y = ⟨(tx (K, textAt s.data.toList (K, p, z))).2.toArray⟩ := ⟨_, rfl⟩
      rw [← hY] at htx
      have hYl : Y.data.toList = (tx (K, textAt s.data.toList (K, p, z))).2 := by rw [hY]
      rw [← hYl] at hst
      have HAL := Lib.hid (show (A ++ (⟨#[32]⟩ ++ Y)).data.toList = written (toksT s.data.toList (L.take (k + 1))) by
        rw [hst, ← hAl.out]; simp)
      have HAS : (A ++ (⟨#[32]⟩ ++ Y)).size ≤ B.size := by rw [← ba_list, HAL.out]; exact hle
      have hsz : (A ++ (⟨#[32]⟩ ++ Y)).size = A.size + (1 + Y.size) := by rw [ByteArray.size_append, ByteArray.size_append]; rfl
      have ha1 := fun w => run_string_add_sum (P := Try.prog) w ⟨#[32]⟩ Y (by show 1 + _ ≤ _; omega)
      have ha2 := fun w => run_string_add_sum (P := Try.prog) w A (⟨#[32]⟩ ++ Y) (by rw [ByteArray.size_append]; show _ + (1 + _) ≤ _; omega)
      have HASS := Lib.hid HAS
      have HBW := Lib.hid hBw
      clear hsz hst hle hx hkl hAl HAS hY hYl hBw
      go_wp2_with (go_at_call 32; refine (htx _).mono ?_; rintro e w2 ⟨rfl, hB2⟩; have HT2 := Lib.hid (HTA.out.below hB2); have HB2 := Lib.hid (HBW.out.trans (hB2.mono HBW.out.size)); clear hB2)
      go_roundw
      case rel => exact ⟨k + 1, _, by omega, HASS.out, rfl, by go_num, HAL, HB2.out, HT2⟩
      case measure => simp [intOf]; omega
    · obtain rfl : k = n := by omega
      have hAB : A = B := ba_ext (by rw [hAl.out, HBL.out, HN.out, List.take_length])
      subst hAB
      clear hAl hAs
      go_wp2_with (first
        | (go_at_call 29; refine (h2 _ (HM.out.below hBw hM0)).mono ?_; rintro e w1 ⟨⟨b, cb, rfl, hTb, hLm⟩, hB1⟩; unfold maxLen at hLm; have HTB := Lib.hid hTb; replace HTA := Lib.hid (HTA.out.below hB1); clear hTb)
        | (refine wpList_store_rowTo rfl 33 (.tmp 8) (.tmp 51) rfl rfl w1.heap.size #[.int .i64 0, .int .i64 0] rfl rfl 33 #[.int .i64 0, .int .i64 0] (heap_alloc_new w1 _) info33 rfl (by simp [Value.oneCell']) ?_; have hX1 := setRow_heap _ w1.heap.size _ #[.int .i64 0, .int .i64 0] _ _ (heap_alloc_new w1 (.cells #[.int .i64 0, .int .i64 0] 33)); have hY1 : Below w1.heap.size w1 _ := below_setRow ((Below.refl _ w1).alloc (Nat.le_refl _) (.cells #[.int .i64 0, .int .i64 0] 33)) (Nat.le_refl _) #[.int .i64 0, .int .i64 0]; have hz1 : w1.heap.size < ((w1.alloc (.cells #[.int .i64 0, .int .i64 0] 33)).setRow w1.heap.size #[.int .i64 0, .int .i64 0]).heap.size := (Array.getElem?_eq_some_iff.1 hX1).1; generalize (w1.alloc (.cells #[.int .i64 0, .int .i64 0] 33)).setRow w1.heap.size #[.int .i64 0, .int .i64 0] = W1 at hX1 hY1 hz1 ⊢; replace hBw := hBw.trans ((hB1.trans (hY1.mono hB1.size)).mono hBw.size); have a0 := cell_of_row _ _ 0 _ _ _ hX1; have a1 := cell_of_row _ _ 1 _ _ _ hX1; simp only [List.getElem?_toArray, List.getElem?_cons_zero, List.getElem?_cons_succ] at a0 a1; replace HTA := Lib.hid (HTA.out.below hY1); replace HTB := Lib.hid (HTB.out.below hY1); clear hX1 hY1 hB1 hz1))
      have HA0 := Lib.hid a0
      have HA1 := Lib.hid a1
      clear h2 a0 a1
      have HBW := Lib.hid hBw
      clear hBw
      go_loopw [9] (fun kv wx => ∃ (i : Nat), i ≤ m ∧ kv = .int .i64 i ∧ Hid (Below W1.heap.size W1 wx)) (fun kv _ => m - (intOf kv).toNat)
      case atStart => exact ⟨0, by omega, rfl, Lib.hid (Below.refl _ _)⟩
      case round =>
        obtain ⟨i, hi, rfl, hBx⟩ := hrel
        by_cases hlt : i < m
        · have j1 : (i : Int) < m := by omega
          have hkl : i < M.length := by rw [← HMM.out]; exact hlt
          obtain ⟨⟨K, p, z⟩, hx⟩ : ∃ x, M[i]? = some x := ⟨M[i]'hkl, List.getElem?_eq_getElem hkl⟩
          have hpz := HN0.out _ (List.mem_of_getElem? hx)
          obtain ⟨g, rfl, c0, c1, c2⟩ := (HTB.out.below hBx.out) i _ hx
          dsimp only at c0 c1 c2 hpz
          have m1 : ((z : Int) == p) = false := int_not (by omega)
          have m2 : decide (z = p) = false := decide_eq_false (by omega)
          have j0 : (0 : Int) ≤ i := by omega
          clear hx hkl
          go_wp2
          go_quiet (fail)
          go_wp2
          go_roundw
          case rel => exact ⟨i + 1, by omega, by go_num, Lib.hid (below_drewN hBx.out _)⟩
          case measure => simp [intOf]; omega
        · obtain rfl : i = m := by omega
          have heq := HEQ.out
          have hge := HGE.out
          have a0 := (hBx.out.cell (p := ⟨_, 0, none⟩) (cell_lt HA0.out)).trans HA0.out
          have a1 := (hBx.out.cell (p := ⟨_, 1, none⟩) (cell_lt HA1.out)).trans HA1.out
          have HTA2 := Lib.hid (HTA.out.below hBx.out)
          have HTB2 := Lib.hid (HTB.out.below hBx.out)
          have HBW2 := Lib.hid (HBW.out.trans (hBx.out.mono HBW.out.size))
          clear HTA HTB HBW hBx
          go_wp2_with (go_at_call 31; refine (hal _ a ca b cb HTA2.out HTB2.out HLn.out).mono ?_; rintro e w5 ⟨rfl, hB5⟩; have hBe := HBW2.out.trans (hB5.mono HBW2.out.size); clear hB5)
          go_ret
          exact ⟨rfl, hBe⟩
theorem lawwritten_any (s : ByteArray) (w : World) (hM : Mx w) :
    Calls Try.prog 12 #[.string s] w fun e w' => e = .returned (.bool true) ∧ Below w.heap.size w w' := by
  rcases all_cases s.data.toList with ⟨f, g, h1, h2, _, _⟩ | ⟨T, h1, h2, h3⟩
  · exact writ_bad s w hM f g [] (sem_bad h1 h2) (.inl h2)
  · by_cases hs : 4000 < s.size
    · exact writ_bad s w hM 0 0 _ (sem_good h1) (.inr ⟨rfl, rfl, hs⟩)
    · exact writ_good s w hM T h1 (by omega) h3
end Go.Proofs.Ytbkmlldhjchhjaa
