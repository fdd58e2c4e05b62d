/-
  Layer 7: contract of the law ScanApart.
-/
import Derived.Test.YtbkmlldhjchhjaaTb
import Derived.Test.YtbkmlldhjchhjaaTc
import Derived.Laws.Concat
namespace Go.Proofs.Ytbkmlldhjchhjaa
open Go.ChangeShapes Go.WideShapes Go.ChangeAt Go.RowKit

theorem ba_ext {a b : ByteArray} (h : a.data.toList = b.data.toList) : a = b := by
  cases a; cases b
  congr 1
  exact Array.toList_inj.1 h
theorem ba_list (a : ByteArray) : a.data.toList.length = a.size := by simp
theorem tiles_bounds {l : List UInt8} : ∀ (T : List (Nat × Nat × Nat)) (p : Nat), Tiles l p T → ∀ x ∈ T, x.2.1 < x.2.2 ∧ x.2.2 ≤ l.length
  | [], _, _, x, hx => by cases hx
  | y :: T, p, h, x, hx => by
    obtain ⟨rfl, hk, h1, h2, h3, h4⟩ := h
    rcases List.mem_cons.1 hx with rfl | hx
    · exact ⟨h1, h2⟩
    · exact tiles_bounds T _ h4 x hx
theorem texts_drop {l : List UInt8} {T : List (Nat × Nat × Nat)} {k : Nat} {x : Nat × Nat × Nat} (hx : T[k]? = some x) : texts l (T.drop k) = (x.1, (l.drop x.2.1).take (x.2.2 - x.2.1)) :: texts l (T.drop (k + 1)) := by
  obtain ⟨h1, h2⟩ := List.getElem?_eq_some_iff.1 hx
  rw [List.drop_eq_getElem_cons h1, h2]; rfl
theorem words_ten {l : List UInt8} {T : List (Nat × Nat × Nat)} {k : Nat} {x : Nat × Nat × Nat} (hx : T[k]? = some x) (h : x.1 = 10) : wordsW (texts l (T.drop k)) = wordsW (texts l (T.drop (k + 1))) := by
  rw [texts_drop hx, h]; rfl
theorem words_not {l : List UInt8} {T : List (Nat × Nat × Nat)} {k : Nat} {x : Nat × Nat × Nat} (hx : T[k]? = some x) (h : x.1 ≠ 10) : wordsW (texts l (T.drop k)) = (x.1, (l.drop x.2.1).take (x.2.2 - x.2.1)) :: wordsW (texts l (T.drop (k + 1))) := by
  rw [texts_drop hx]
  unfold wordsW
  rw [List.filter_cons_of_pos (by simpa using h)]
theorem words_end {l : List UInt8} {T : List (Nat × Nat × Nat)} : wordsW (texts l (T.drop T.length)) = [] := by
  rw [List.drop_length]; rfl
theorem apart_step {l : List UInt8} {T : List (Nat × Nat × Nat)} {k : Nat} {x : Nat × Nat × Nat} (hx : T[k]? = some x) : apart (texts l (T.take (k + 1))) = apart (texts l (T.take k)) ++ ((l.drop x.2.1).take (x.2.2 - x.2.1) ++ [10]) := by
  obtain ⟨h1, h2⟩ := List.getElem?_eq_some_iff.1 hx
  rw [List.take_succ_eq_append_getElem h1, h2]
  unfold texts apart
  rw [List.map_append, List.flatMap_append]
  simp
theorem apart_le {l : List UInt8} (T : List (Nat × Nat × Nat)) (k : Nat) : (apart (texts l (T.take k))).length ≤ (apart (texts l T)).length := by
  conv => rhs; rw [← List.take_append_drop k T]
  unfold texts apart
  rw [List.map_append, List.flatMap_append, List.length_append]
  omega
set_option maxRecDepth 100000 in
set_option maxHeartbeats 4000000 in
theorem apart_bad (s : ByteArray) (w : World) (hM : Mx w) (f g : Int) (T : List (Nat × Nat × Nat)) (hA : allAns s.data.toList = (T, f, g)) (hf : f ≠ 0 ∨ (f = 0 ∧ g = 0 ∧ 4000 < s.size)) :
    Calls Try.prog 7 #[.string s] w fun e w' => e = .returned (.bool true) ∧ Below w.heap.size w w' := by
  have hM0 := hM.lt
  have HM := Lib.hid hM
  clear hM
  have h1 := fun w hM => all_toks s w hM
  rw [hA] at h1
  have hne := fun w => fault_neq f g w
  have hgd := fun u v w => fault_ngd u v #[.int .i64 f, .int .i64 g] #[.int .i64 0, .int .i64 0] w
  rcases hf with hf | ⟨hf, hg, hs⟩
  · rw [decide_eq_false hf] at hne
    clear hA hf
    go_enter Try.func7, Try.ntmps7
    go_wp2_with (first
      | (go_at_call 22; refine (h1 _ HM.out).mono ?_; rintro e w1 ⟨⟨a, ca, rfl, hTa, hLn⟩, hB1⟩; clear hTa hLn)
      | (refine wpList_store_rowTo rfl 33 (.tmp 4) (.tmp 15) rfl rfl w1.heap.size #[.int .i64 f, .int .i64 g] rfl rfl 33 #[.int .i64 0, .int .i64 0] (heap_alloc_new w1 _) info33 rfl (by simp [Value.oneCell']) ?_; have hX1 := setRow_heap _ w1.heap.size _ #[.int .i64 f, .int .i64 g] _ _ (heap_alloc_new w1 (.cells #[.int .i64 0, .int .i64 0] 33)); have hY1 : Below w1.heap.size w1 _ := below_setRow ((Below.refl _ w1).alloc (Nat.le_refl _) (.cells #[.int .i64 0, .int .i64 0] 33)) (Nat.le_refl _) #[.int .i64 f, .int .i64 g]; have hz1 : w1.heap.size < ((w1.alloc (.cells #[.int .i64 0, .int .i64 0] 33)).setRow w1.heap.size #[.int .i64 f, .int .i64 g]).heap.size := (Array.getElem?_eq_some_iff.1 hX1).1; generalize (w1.alloc (.cells #[.int .i64 0, .int .i64 0] 33)).setRow w1.heap.size #[.int .i64 f, .int .i64 g] = W1 at hX1 hY1 hz1 ⊢; have hBw := hB1.trans (hY1.mono hB1.size); have a0 := cell_of_row _ _ 0 _ _ _ hX1; have a1 := cell_of_row _ _ 1 _ _ _ hX1; simp only [List.getElem?_toArray, List.getElem?_cons_zero, List.getElem?_cons_succ] at a0 a1; clear hX1 hY1 hB1 hz1)
      | (go_at_call 17; refine (fixed7_any _ (HM.out.below hBw hM0)).mono ?_; rintro e w2 ⟨rfl, hB2⟩; replace a0 := (hB2.cell (p := ⟨_, 0, none⟩) (cell_lt a0)).trans a0; replace a1 := (hB2.cell (p := ⟨_, 1, none⟩) (cell_lt a1)).trans a1; replace hBw := below_chain hBw hB2; clear hB2))
    go_ret
    exact ⟨rfl, hBw⟩
  · subst hf
    subst hg
    have i1 : (4000 : Int) < s.size := by omega
    clear hA hs
    go_enter Try.func7, Try.ntmps7
    go_wp2_with (first
      | (go_at_call 22; refine (h1 _ HM.out).mono ?_; rintro e w1 ⟨⟨a, ca, rfl, hTa, hLn⟩, hB1⟩; clear hTa hLn)
      | (refine wpList_store_rowTo rfl 33 (.tmp 4) (.tmp 15) rfl rfl w1.heap.size #[.int .i64 0, .int .i64 0] rfl rfl 33 #[.int .i64 0, .int .i64 0] (heap_alloc_new w1 _) info33 rfl (by simp [Value.oneCell']) ?_; have hX1 := setRow_heap _ w1.heap.size _ #[.int .i64 0, .int .i64 0] _ _ (heap_alloc_new w1 (.cells #[.int .i64 0, .int .i64 0] 33)); have hY1 : Below w1.heap.size w1 _ := below_setRow ((Below.refl _ w1).alloc (Nat.le_refl _) (.cells #[.int .i64 0, .int .i64 0] 33)) (Nat.le_refl _) #[.int .i64 0, .int .i64 0]; have hz1 : w1.heap.size < ((w1.alloc (.cells #[.int .i64 0, .int .i64 0] 33)).setRow w1.heap.size #[.int .i64 0, .int .i64 0]).heap.size := (Array.getElem?_eq_some_iff.1 hX1).1; generalize (w1.alloc (.cells #[.int .i64 0, .int .i64 0] 33)).setRow w1.heap.size #[.int .i64 0, .int .i64 0] = W1 at hX1 hY1 hz1 ⊢; have hBw := hB1.trans (hY1.mono hB1.size); have a0 := cell_of_row _ _ 0 _ _ _ hX1; have a1 := cell_of_row _ _ 1 _ _ _ hX1; simp only [List.getElem?_toArray, List.getElem?_cons_zero, List.getElem?_cons_succ] at a0 a1; clear hX1 hY1 hB1 hz1)
      | (go_at_call 17; refine (fixed7_any _ (HM.out.below hBw hM0)).mono ?_; rintro e w2 ⟨rfl, hB2⟩; replace a0 := (hB2.cell (p := ⟨_, 0, none⟩) (cell_lt a0)).trans a0; replace a1 := (hB2.cell (p := ⟨_, 1, none⟩) (cell_lt a1)).trans a1; replace hBw := below_chain hBw hB2; clear hB2))
    go_ret
    exact ⟨rfl, hBw⟩
set_option maxRecDepth 100000 in
set_option maxHeartbeats 8000000 in
theorem apart_good (s : ByteArray) (w : World) (hM : Mx w) (T : List (Nat × Nat × Nat)) (hA : allAns s.data.toList = (T, 0, 0)) (hs : s.size ≤ 4000) :
    Calls Try.prog 7 #[.string s] w fun e w' => e = .returned (.bool true) ∧ Below w.heap.size w w' := by
  obtain ⟨S, hS, hW, hlen⟩ := apart_all hA (by rw [ba_list]; exact hs)
  have HTi := Lib.hid (tiles_bounds T 0 (all_tiles hA).2.2)
  have HSi := Lib.hid (tiles_bounds S 0 (all_tiles hS).2.2)
  obtain ⟨B, hB⟩ : ∃ B : ByteArray, B = ⟨(apart (texts s.data.toList T)).toArray⟩ := ⟨_, rfl⟩
  have hBl : B.data.toList = apart (texts s.data.toList T) := by rw [hB]
  have hBs : B.size ≤ 8000 := by rw [← ba_list, hBl]; exact hlen
  rw [← hBl] at hS hW HSi
  have HBL := Lib.hid hBl
  have HWW := Lib.hid hW
  have hM0 := hM.lt
  have HM := Lib.hid hM
  clear hM
  have h1 := fun w hM => all_toks s w hM
  rw [hA] at h1
  have h2 := fun w hM => all_toks B w hM
  rw [hS] at h2
  have hne := fun w => fault_neq 0 0 w
  rw [show (!(decide ((0 : Int) = 0) && decide ((0 : Int) = 0))) = false from rfl] at hne
  have hgd := fun u v w => fault_ngd u v #[.int .i64 0, .int .i64 0] #[.int .i64 0, .int .i64 0] w
  obtain ⟨n, hn⟩ : ∃ n, n = T.length := ⟨_, rfl⟩
  obtain ⟨m, hm⟩ : ∃ m, m = S.length := ⟨_, rfl⟩
  dsimp only at h1 h2
  rw [← hn] at h1
  rw [← hm] at h2
  have HN := Lib.hid hn
  have HMM := Lib.hid hm
  clear hA hn hm hS hB hBl hW hlen
  have i1 : ¬ (4000 : Int) < s.size := by omega
  have HNE := Lib.hid hne
  have HGD := Lib.hid hgd
  go_enter Try.func7, Try.ntmps7
  go_wp2_with (first
    | (go_at_call 22; refine (h1 _ HM.out).mono ?_; rintro e w1 ⟨⟨a, ca, rfl, hTa, hLn⟩, hB1⟩; unfold maxLen at hLn; have HTA := Lib.hid hTa; clear hTa)
    | (refine wpList_store_rowTo rfl 33 (.tmp 4) (.tmp 15) rfl rfl w1.heap.size #[.int .i64 0, .int .i64 0] rfl rfl 33 #[.int .i64 0, .int .i64 0] (heap_alloc_new w1 _) info33 rfl (by simp [Value.oneCell']) ?_; have hX1 := setRow_heap _ w1.heap.size _ #[.int .i64 0, .int .i64 0] _ _ (heap_alloc_new w1 (.cells #[.int .i64 0, .int .i64 0] 33)); have hY1 : Below w1.heap.size w1 _ := below_setRow ((Below.refl _ w1).alloc (Nat.le_refl _) (.cells #[.int .i64 0, .int .i64 0] 33)) (Nat.le_refl _) #[.int .i64 0, .int .i64 0]; have hz1 : w1.heap.size < ((w1.alloc (.cells #[.int .i64 0, .int .i64 0] 33)).setRow w1.heap.size #[.int .i64 0, .int .i64 0]).heap.size := (Array.getElem?_eq_some_iff.1 hX1).1; generalize (w1.alloc (.cells #[.int .i64 0, .int .i64 0] 33)).setRow w1.heap.size #[.int .i64 0, .int .i64 0] = W1 at hX1 hY1 hz1 ⊢; have hBw := hB1.trans (hY1.mono hB1.size); have a0 := cell_of_row _ _ 0 _ _ _ hX1; have a1 := cell_of_row _ _ 1 _ _ _ hX1; simp only [List.getElem?_toArray, List.getElem?_cons_zero, List.getElem?_cons_succ] at a0 a1; replace HTA := Lib.hid (HTA.out.below hY1); clear hX1 hY1 hB1 hz1)
    | (go_at_call 17; refine (fixed7_any _ (HM.out.below hBw hM0)).mono ?_; rintro e w2 ⟨rfl, hB2⟩; replace a0 := (hB2.cell (p := ⟨_, 0, none⟩) (cell_lt a0)).trans a0; replace a1 := (hB2.cell (p := ⟨_, 1, none⟩) (cell_lt a1)).trans a1; replace HTA := Lib.hid (HTA.out.below hB2); replace hBw := below_chain hBw hB2; clear hB2))
  clear a0 a1 hne hgd h1
  go_loopw [5, 6] (fun tv kv wr => ∃ (k : Nat) (A : ByteArray), k ≤ n ∧ A.size ≤ B.size ∧ tv = .string A ∧ kv = .int .i64 k ∧ Hid (A.data.toList = apart (texts s.data.toList (T.take k))) ∧ Below w.heap.size w wr ∧ Hid (Toks wr a T)) (fun _ kv _ => n - (intOf kv).toNat)
  case atStart => exact ⟨0, ⟨#[]⟩, by omega, Nat.zero_le _, rfl, rfl, rfl, hBw, HTA⟩
  case round =>
    clear HTA hBw
    obtain ⟨k, A, hk, hAs, rfl, rfl, hAl, hBw, HTA⟩ := hrel
    by_cases hlt : k < n
    · have j1 : (k : Int) < n := by omega
      have hkl : k < T.length := by rw [← HN.out]; exact hlt
      obtain ⟨⟨K, p, z⟩, hx⟩ : ∃ x, T[k]? = some x := ⟨T[k]'hkl, List.getElem?_eq_getElem hkl⟩
      obtain ⟨b1, b2⟩ := HTi.out _ (List.mem_of_getElem? hx)
      have hst := apart_step (l := s.data.toList) hx
      have hle := apart_le (l := s.data.toList) T (k + 1)
      rw [← HBL.out, ba_list] at hle
      dsimp only at b1 b2 hst
      rw [ba_list] at b2
      obtain ⟨g, rfl, c0, c1, c2⟩ := HTA.out k _ hx
      dsimp only at c0 c1 c2
      have hsz : (s.extract p z).size = z - p := by rw [ByteArray.size_extract]; omega
      have hsz1 : ((s.extract p z) ++ ⟨#[10]⟩ : ByteArray).size = z - p + 1 := by rw [ByteArray.size_append, hsz]; rfl
      have ha1 := fun w => run_string_add_sum (P := Try.prog) w (s.extract p z) ⟨#[10]⟩ (by rw [hsz]; show _ + 1 ≤ _; omega)
      have ha2 := fun w => run_string_add_sum (P := Try.prog) w A ((s.extract p z) ++ ⟨#[10]⟩) (by rw [hsz1]; omega)
      have HAL := Lib.hid (show (A ++ (s.extract p z ++ ⟨#[10]⟩)).data.toList = apart (texts s.data.toList (T.take (k + 1))) by
        rw [hst, ← hAl.out, ← Num.extract_take]; simp)
      have HAS : (A ++ (s.extract p z ++ ⟨#[10]⟩)).size ≤ B.size := by rw [← ba_list, HAL.out]; exact hle
      have hsl := fun w => slice_str s p z (by omega) (by omega) w
      have j2 : (p : Int) < z := by omega
      have j3 : (z : Int) ≤ s.size := by omega
      have j0 : (0 : Int) ≤ k := by omega
      have jp : (0 : Int) ≤ p := by omega
      have d1 : decide ((p : Int) < 0) = false := decide_eq_false (by omega)
      have d2 : decide (z < p) = false := decide_eq_false (by omega)
      have d3 : decide (s.size < z) = false := decide_eq_false (by omega)
      have HASS := Lib.hid HAS
      clear hsz hsz1 hst hle hx hkl hAl HAS
      go_wp2
      go_quiet (fail)
      go_wp2
      go_quiet (fail)
      go_wp2
      go_roundw
      case rel => exact ⟨k + 1, _, by omega, HASS.out, rfl, by go_num, HAL, below_drewN hBw _, HTA⟩
      case measure => simp [intOf]; omega
    · obtain rfl : k = n := by omega
      have hAB : A = B := ba_ext (by rw [hAl.out, HBL.out, HN.out, List.take_length])
      subst hAB
      clear hAl hAs
      have hne := HNE.out
      have hgd := HGD.out
      go_wp2_with (first
        | (go_at_call 22; refine (h2 _ (HM.out.below hBw hM0)).mono ?_; rintro e w1 ⟨⟨b, cb, rfl, hTb, hLm⟩, hB1⟩; unfold maxLen at hLm; have HTB := Lib.hid hTb; replace HTA := Lib.hid (HTA.out.below hB1); clear hTb)
        | (refine wpList_store_rowTo rfl 33 (.tmp 8) (.tmp 83) rfl rfl w1.heap.size #[.int .i64 0, .int .i64 0] rfl rfl 33 #[.int .i64 0, .int .i64 0] (heap_alloc_new w1 _) info33 rfl (by simp [Value.oneCell']) ?_; have hX1 := setRow_heap _ w1.heap.size _ #[.int .i64 0, .int .i64 0] _ _ (heap_alloc_new w1 (.cells #[.int .i64 0, .int .i64 0] 33)); have hY1 : Below w1.heap.size w1 _ := below_setRow ((Below.refl _ w1).alloc (Nat.le_refl _) (.cells #[.int .i64 0, .int .i64 0] 33)) (Nat.le_refl _) #[.int .i64 0, .int .i64 0]; have hz1 : w1.heap.size < ((w1.alloc (.cells #[.int .i64 0, .int .i64 0] 33)).setRow w1.heap.size #[.int .i64 0, .int .i64 0]).heap.size := (Array.getElem?_eq_some_iff.1 hX1).1; generalize (w1.alloc (.cells #[.int .i64 0, .int .i64 0] 33)).setRow w1.heap.size #[.int .i64 0, .int .i64 0] = W1 at hX1 hY1 hz1 ⊢; replace hBw := hBw.trans ((hB1.trans (hY1.mono hB1.size)).mono hBw.size); have a0 := cell_of_row _ _ 0 _ _ _ hX1; have a1 := cell_of_row _ _ 1 _ _ _ hX1; simp only [List.getElem?_toArray, List.getElem?_cons_zero, List.getElem?_cons_succ] at a0 a1; replace HTA := Lib.hid (HTA.out.below hY1); replace HTB := Lib.hid (HTB.out.below hY1); clear hX1 hY1 hB1 hz1))
      clear a0 a1 hne hgd h2
      go_loopw [9, 10] (fun qv kv wx => ∃ (q i : Nat), q ≤ m ∧ i ≤ k ∧ qv = .int .i64 q ∧ kv = .int .i64 i ∧ Hid (wordsW (texts A.data.toList (S.drop q)) = wordsW (texts s.data.toList (T.drop i))) ∧ Below w.heap.size w wx ∧ Hid (Toks wx a T) ∧ Hid (Toks wx b S)) (fun _ kv _ => k - (intOf kv).toNat)
      case atStart => exact ⟨0, 0, by omega, by omega, rfl, rfl, Lib.hid HWW.out, hBw, HTA, HTB⟩
      case round =>
        clear HTA HTB hBw
        obtain ⟨q, i, hq, hi, rfl, rfl, hWd, hBw, HTA, HTB⟩ := hrel
        by_cases hlt : i < k
        · have j1 : (i : Int) < k := by omega
          have hkl : i < T.length := by rw [← HN.out]; exact hlt
          obtain ⟨⟨K, p, z⟩, hx⟩ : ∃ x, T[i]? = some x := ⟨T[i]'hkl, List.getElem?_eq_getElem hkl⟩
          obtain ⟨b1, b2⟩ := HTi.out _ (List.mem_of_getElem? hx)
          dsimp only at b1 b2
          rw [ba_list] at b2
          obtain ⟨g, rfl, c0, c1, c2⟩ := HTA.out i _ hx
          dsimp only at c0 c1 c2
          by_cases hK : K = 10
          · have hw2 := words_ten (l := s.data.toList) hx hK
            rw [hw2] at hWd
            have k10 : ((K : Int) == 10) = true := by rw [hK]; rfl
            clear hw2 hK hx hkl
            go_wp2
            go_roundw
            case rel => exact ⟨q, i + 1, hq, by omega, rfl, by go_num, hWd, hBw, HTA, HTB⟩
            case measure => simp [intOf]; omega
          · have hw2 := words_not (l := s.data.toList) hx hK
            rw [hw2] at hWd
            have k10 : ((K : Int) == 10) = false := by simp; omega
            clear hw2 hx hkl
            dsimp only at hWd
            go_wp2
            obtain ⟨wo, rfl⟩ : ∃ wo : World, wo = wr := ⟨_, rfl⟩
            go_loopw [9] (fun qv wy => ∃ (q : Nat), q ≤ m ∧ qv = .int .i64 q ∧ Hid (wordsW (texts A.data.toList (S.drop q)) = (K, (s.data.toList.drop p).take (z - p)) :: wordsW (texts s.data.toList (T.drop (i + 1)))) ∧ wy = wo) (fun qv _ => m - (intOf qv).toNat)
            case atStart => exact ⟨q, hq, rfl, hWd, rfl⟩
            case round =>
              clear hWd hq
              obtain ⟨q, hq, rfl, hWd, rfl⟩ := hrel
              have hqm : q < m := by
                rcases Nat.lt_or_ge q m with h | h
                · exact h
                · have : q = S.length := by rw [← HMM.out]; omega
                  have h0 := hWd.out
                  rw [this, words_end] at h0
                  cases h0
              have hql : q < S.length := by rw [← HMM.out]; exact hqm
              obtain ⟨⟨J, c, d⟩, hy⟩ : ∃ x, S[q]? = some x := ⟨S[q]'hql, List.getElem?_eq_getElem hql⟩
              obtain ⟨b3, b4⟩ := HSi.out _ (List.mem_of_getElem? hy)
              dsimp only at b3 b4
              rw [ba_list] at b4
              obtain ⟨g', rfl, e0, e1, e2⟩ := HTB.out q _ hy
              dsimp only at e0 e1 e2
              have j2 : (q : Int) < m := by omega
              by_cases hJ : J = 10
              · have hw2 := words_ten (l := A.data.toList) hy hJ
                rw [hw2] at hWd
                have kj : ((J : Int) == 10) = true := by rw [hJ]; rfl
                clear hw2 hJ hy hql
                go_wp2
                go_roundw
                case rel => exact ⟨q + 1, by omega, by go_num, hWd, by simp⟩
                case measure => simp [intOf]; omega
              · have hw2 := words_not (l := A.data.toList) hy hJ
                have hw3 := hWd.out
                rw [hw2] at hw3
                obtain ⟨g1, g2⟩ := List.cons.inj hw3
                obtain ⟨g1, g3⟩ := Prod.mk.inj g1
                have g1 : J = K := g1
                subst g1
                dsimp only at g3
                have hxt : A.extract c d = s.extract p z := ba_ext (by rw [Num.extract_take, Num.extract_take]; exact g3)
                have kj : ((J : Int) == 10) = false := k10
                have HG2 := Lib.hid g2
                have j3 : (p : Int) < z := by omega
                have j4 : (z : Int) ≤ s.size := by omega
                have j5 : (c : Int) < d := by omega
                have j6 : (d : Int) ≤ A.size := by omega
                have j7 : ((q : Int) == m) = false := by simp; omega
                have j8 : (0 : Int) ≤ q := by omega
                have j9 : (0 : Int) ≤ i := by omega
                have j10 : (0 : Int) ≤ p := by omega
                have j11 : (0 : Int) ≤ c := by omega
                have hs1 := fun w => slice_str s p z (by omega) (by omega) w
                have hs2 := fun w => slice_str A c d (by omega) (by omega) w
                have jj : decide (q = m) = false := decide_eq_false (by omega)
                clear hw2 hJ hy hql hw3 g2 g3 hWd hK
                go_wp2
                go_quiet (fail)
                go_wp2
                go_roundw
                case rel => exact ⟨q + 1, i + 1, by omega, by omega, by go_num, by go_num, HG2, below_drewN hBw _, HTA, HTB⟩
                case measure => simp [intOf]; omega
        · obtain rfl : i = k := by omega
          rw [HN.out, words_end] at hWd
          go_wp2
          go_loopw [9] (fun qv wy => ∃ (q : Nat), q ≤ m ∧ qv = .int .i64 q ∧ Hid (wordsW (texts A.data.toList (S.drop q)) = []) ∧ Below w.heap.size w wy ∧ Hid (Toks wy b S)) (fun qv _ => m - (intOf qv).toNat)
          case atStart => exact ⟨q, hq, rfl, hWd, hBw, HTB⟩
          case round =>
            clear hWd hq HTB hBw
            obtain ⟨q, hq, rfl, hWd, hBw, HTB⟩ := hrel
            by_cases hqm : q < m
            · have hql : q < S.length := by rw [← HMM.out]; exact hqm
              obtain ⟨⟨J, c, d⟩, hy⟩ : ∃ x, S[q]? = some x := ⟨S[q]'hql, List.getElem?_eq_getElem hql⟩
              obtain ⟨g', rfl, e0, e1, e2⟩ := HTB.out q _ hy
              dsimp only at e0 e1 e2
              have j2 : (q : Int) < m := by omega
              have hJ : J = 10 := by
                rcases Nat.decEq J 10 with h | h
                · have h0 := hWd.out
                  rw [words_not hy h] at h0
                  cases h0
                · exact h
              have hw2 := words_ten (l := A.data.toList) hy hJ
              rw [hw2] at hWd
              have kj : ((J : Int) == 10) = true := by rw [hJ]; rfl
              clear hw2 hJ hy hql
              go_wp2
              go_roundw
              case rel => exact ⟨q + 1, by omega, by go_num, hWd, hBw, HTB⟩
              case measure => simp [intOf]; omega
            · obtain rfl : q = m := by omega
              go_wp2
              go_ret
              exact ⟨rfl, hBw⟩
theorem lawapart_any (s : ByteArray) (w : World) (hM : Mx w) :
    Calls Try.prog 7 #[.string s] w fun e w' => e = .returned (.bool true) ∧ Below w.heap.size w w' := by
  rcases all_cases s.data.toList with ⟨f, g, h1, h2, _, _⟩ | ⟨T, h1, h2, h3⟩
  · exact apart_bad s w hM f g [] h1 (.inl h2)
  · by_cases hs : 4000 < s.size
    · exact apart_bad s w hM 0 0 T h1 (.inr ⟨rfl, rfl, hs⟩)
    · exact apart_good s w hM T h1 (by omega)
end Go.Proofs.Ytbkmlldhjchhjaa
