/-
  Layer 8: contract of semi.Of.
-/
import Derived.Test.YtbkmlldhjchhjaaGreatTi
import Derived.Laws.EntriesVeiled
import Derived.StillTailTactics
namespace Go.Proofs.YtbkmlldhjchhjaaGreat
open Go.ChangeShapes Go.WideShapes Go.ChangeAt Go.RowKit

theorem tiles_len {l : List UInt8} : ∀ (T : List (Nat × Nat × Nat)) (p : Nat), Tiles l p T → p ≤ l.length → T.length + p ≤ l.length
  | [], p, _, hp => by rw [List.length_nil]; omega
  | x :: T, p, h, _ => by
    obtain ⟨rfl, _, h1, h2, _, h4⟩ := h
    have := tiles_len T _ h4 h2
    rw [List.length_cons]
    omega
theorem semiO_len (o : Option Nat) : (semiO o).length ≤ 1 := by cases o <;> simp [semiO]
theorem sems_no {l : List UInt8} {o : Option Nat} {x : Nat × Nat × Nat} {T : List (Nat × Nat × Nat)} (hs : silentB x.1 = true) (hn : (textAt l x).contains 10 = false) : sems l o (x :: T) = sems l o T := by
  conv => lhs; unfold sems
  rw [if_pos hs, if_neg (by rw [hn]; decide)]
theorem sems_nl {l : List UInt8} {o : Option Nat} {x : Nat × Nat × Nat} {T : List (Nat × Nat × Nat)} (hs : silentB x.1 = true) (hn : (textAt l x).contains 10 = true) : sems l o (x :: T) = semiO o ++ sems l none T := by
  conv => lhs; unfold sems
  rw [if_pos hs, if_pos hn]
set_option maxRecDepth 100000 in
set_option maxHeartbeats 8000000 in
theorem semi_bad (s : ByteArray) (w : World) (hM : Mx w) (f g : Int) (hA : allAns s.data.toList = ([], f, g)) (hf : f ≠ 0) :
    Calls Tryz.prog 6 #[.string s] w fun e w' => AllOf w.heap.size ([], f, g) e w' ∧ Below w.heap.size w w' := by
  have HM := Lib.hid (hM.alloc (.cells #[.int .i64 0, .int .i64 0] 26))
  have HB0 := Lib.hid (show Below w.heap.size w (w.alloc (.cells #[.int .i64 0, .int .i64 0] 26)) from (Below.refl _ _).alloc (Nat.le_refl _) _)
  have HH0 := Lib.hid (show (w.alloc (.cells #[.int .i64 0, .int .i64 0] 26)).heap[w.heap.size]? = some (.cells #[.int .i64 0, .int .i64 0] 26) from heap_alloc_new w _)
  have HZ0 := Lib.hid (show (w.alloc (.cells #[.int .i64 0, .int .i64 0] 26)).heap.size = w.heap.size + 1 by simp)
  have h1 := fun w hM => all_toks s w hM
  rw [hA] at h1
  have hne := fun w => fault_neq f g w
  rw [decide_eq_false hf] at hne
  have hgd := fun u v w => fault_ngd u v #[.int .i64 f, .int .i64 g] #[.int .i64 0, .int .i64 0] w
  clear hA hf hM
  go_enter Tryz.func6, Tryz.ntmps6
  go_wp2_with (first
    | (go_at_call 15; refine (h1 _ HM.out).mono ?_; rintro e w1 ⟨⟨a, ca, rfl, hTa, hLn⟩, hB1⟩; replace hB1 := hB1.mono (show w.heap.size + 1 ≤ _ by rw [HZ0.out]; exact Nat.le_refl _); clear hTa hLn)
    | (refine wpList_store_rowTo rfl 26 (.tmp 5) (.tmp 17) rfl rfl w1.heap.size #[.int .i64 f, .int .i64 g] rfl rfl 26 #[.int .i64 0, .int .i64 0] (heap_alloc_new w1 _) info33 rfl (by simp [Value.oneCell']) ?_; have hX1 := setRow_heap _ w1.heap.size _ #[.int .i64 f, .int .i64 g] _ _ (heap_alloc_new w1 (.cells #[.int .i64 0, .int .i64 0] 26)); have hY1 : Below w1.heap.size w1 _ := below_setRow ((Below.refl _ w1).alloc (Nat.le_refl _) (.cells #[.int .i64 0, .int .i64 0] 26)) (Nat.le_refl _) #[.int .i64 f, .int .i64 g]; have hz1 : w1.heap.size < ((w1.alloc (.cells #[.int .i64 0, .int .i64 0] 26)).setRow w1.heap.size #[.int .i64 f, .int .i64 g]).heap.size := (Array.getElem?_eq_some_iff.1 hX1).1; generalize (w1.alloc (.cells #[.int .i64 0, .int .i64 0] 26)).setRow w1.heap.size #[.int .i64 f, .int .i64 g] = W1 at hX1 hY1 hz1 ⊢; have hBw := hB1.trans (hY1.mono (by have := hB1.size; rw [HZ0.out] at this; exact this)); have a0 := cell_of_row _ _ 0 _ _ _ hX1; have a1 := cell_of_row _ _ 1 _ _ _ hX1; simp only [List.getElem?_toArray, List.getElem?_cons_zero, List.getElem?_cons_succ] at a0 a1; clear hX1 hY1 hB1 hz1))
  go_still_tail 2, (by kernel_rfl)
  change wpList _ _ _ _ _ W1.drew
  have hBx := hBw.drew
  have HR := Lib.hid ((hBx.block w.heap.size (by omega)).trans HH0.out)
  clear a0 a1 hBw
  generalize W1.drew = W2 at hBx HR ⊢
  go_wp2_with (refine wpList_store_rowTo rfl 26 (.tmp 3) (.tmp 21) rfl rfl w.heap.size #[.int .i64 f, .int .i64 g] rfl rfl 26 #[.int .i64 0, .int .i64 0] HR.out info33 rfl (by simp [Value.oneCell']) ?_)
  (try simp only [Exit.inBlock, Exit.then])
  refine bodyPost_ret (v := .tuple #[_, .agg #[.int .i64 f, .int .i64 g]]) (results_tmp_row (u := 2) (p := 3) rfl _ _ w.heap.size #[.int .i64 f, .int .i64 g] _ rfl rfl (run_loadVar_row _ w.heap.size 26 26 #[.int .i64 f, .int .i64 g] (0, 0) _ (setRow_heap _ _ _ _ _ _ HR.out) Tryz.underlying26 rfl info33)) rfl ⟨⟨_, rfl, ?_⟩, below_setRow (HB0.out.trans (hBx.mono (by omega))) (Nat.le_refl _) _⟩
  exact World.ownsRow_nil _ _ _ _
set_option maxRecDepth 100000 in
set_option maxHeartbeats 16000000 in
theorem semi_good (s : ByteArray) (w : World) (hM : Mx w) (T : List (Nat × Nat × Nat)) (hA : allAns s.data.toList = (T, 0, 0)) (hs : s.size ≤ 65536) (hT : Tiles s.data.toList 0 T) :
    Calls Tryz.prog 6 #[.string s] w fun e w' => AllOf w.heap.size (sems s.data.toList none T, 0, 0) e w' ∧ Below w.heap.size w w' := by
  have HTi := Lib.hid (tiles_bounds T 0 hT)
  have hTn := tiles_len T 0 hT (Nat.zero_le _)
  rw [ba_list] at hTn
  obtain ⟨i0, hi, hy0, hy1, hy2⟩ := info_parts info26z
  have HM := Lib.hid (hM.alloc (.cells #[.int .i64 0, .int .i64 0] 26))
  have HB0 := Lib.hid (show Below w.heap.size w (w.alloc (.cells #[.int .i64 0, .int .i64 0] 26)) from (Below.refl _ _).alloc (Nat.le_refl _) _)
  have HH0 := Lib.hid (show (w.alloc (.cells #[.int .i64 0, .int .i64 0] 26)).heap[w.heap.size]? = some (.cells #[.int .i64 0, .int .i64 0] 26) from heap_alloc_new w _)
  have HZ0 := Lib.hid (show (w.alloc (.cells #[.int .i64 0, .int .i64 0] 26)).heap.size = w.heap.size + 1 by simp)
  have h1 := fun w hM => all_toks s w hM
  rw [hA] at h1
  have hne := fun w => fault_neq 0 0 w
  rw [show (!(decide ((0 : Int) = 0) && decide ((0 : Int) = 0))) = false from rfl] at hne
  have hgd := fun u v w => fault_ngd u v #[.int .i64 0, .int .i64 0] #[.int .i64 0, .int .i64 0] w
  obtain ⟨n, hn⟩ : ∃ n, n = T.length := ⟨_, rfl⟩
  dsimp only at h1
  rw [← hn] at h1 hTn
  have HN := Lib.hid hn
  clear hA hn hM hT
  go_enter Tryz.func6, Tryz.ntmps6
  go_wp2_with (first
    | (go_at_call 15; refine (h1 _ HM.out).mono ?_; rintro e w1 ⟨⟨a, ca, rfl, hTa, hLn⟩, hB1⟩; replace hB1 := hB1.mono (show w.heap.size + 1 ≤ _ by rw [HZ0.out]; exact Nat.le_refl _); have HTA := Lib.hid hTa; clear hTa hLn)
    | (refine wpList_store_rowTo rfl 26 (.tmp 5) (.tmp 17) rfl rfl w1.heap.size #[.int .i64 0, .int .i64 0] rfl rfl 26 #[.int .i64 0, .int .i64 0] (heap_alloc_new w1 _) info33 rfl (by simp [Value.oneCell']) ?_; have hX1 := setRow_heap _ w1.heap.size _ #[.int .i64 0, .int .i64 0] _ _ (heap_alloc_new w1 (.cells #[.int .i64 0, .int .i64 0] 26)); have hY1 : Below w1.heap.size w1 _ := below_setRow ((Below.refl _ w1).alloc (Nat.le_refl _) (.cells #[.int .i64 0, .int .i64 0] 26)) (Nat.le_refl _) #[.int .i64 0, .int .i64 0]; have hz1 : w1.heap.size < ((w1.alloc (.cells #[.int .i64 0, .int .i64 0] 26)).setRow w1.heap.size #[.int .i64 0, .int .i64 0]).heap.size := (Array.getElem?_eq_some_iff.1 hX1).1; generalize (w1.alloc (.cells #[.int .i64 0, .int .i64 0] 26)).setRow w1.heap.size #[.int .i64 0, .int .i64 0] = W1 at hX1 hY1 hz1 ⊢; have hBw := hB1.trans (hY1.mono (by have := hB1.size; rw [HZ0.out] at this; exact this)); have a0 := cell_of_row _ _ 0 _ _ _ hX1; have a1 := cell_of_row _ _ 1 _ _ _ hX1; simp only [List.getElem?_toArray, List.getElem?_cons_zero, List.getElem?_cons_succ] at a0 a1; replace HTA := Lib.hid (HTA.out.below hY1); clear hX1 hY1 hB1 hz1))
  clear a0 a1 hne hgd h1
  obtain ⟨b, hb⟩ : ∃ b, b = W1.heap.size := ⟨_, rfl⟩
  have hwb : w.heap.size < b := by have := hBw.size; rw [HZ0.out] at this; omega
  have HBx0 : Hid (Box ((W1.alloc (.cells #[.slice none 0 0] 23)).alloc (.cells #[.bool false] 4)) b (b + 1) (b + 2) none (.slice none 0 0) []) := by
    refine Lib.hid ⟨?_, ?_, World.ownsRow_nil _ _ _ _, by omega, by omega, by omega, fun z h => by cases h⟩
    · rw [hb]; exact (Below.heap_alloc _ _ _ (by simp)).trans (heap_alloc_new W1 _)
    · have := heap_alloc_new (W1.alloc (.cells #[.slice none 0 0] 23)) (.cells #[.bool false] 4)
      rw [show (W1.alloc (.cells #[.slice none 0 0] 23)).heap.size = b + 1 by rw [hb]; simp] at this
      exact this
  have HBl0 : Hid (Below b W1 ((W1.alloc (.cells #[.slice none 0 0] 23)).alloc (.cells #[.bool false] 4))) := Lib.hid (((Below.refl b W1).alloc (by omega) _).alloc (by simp; omega) _)
  rw [← hb]
  have HBQ := Lib.hid hb
  clear hb
  go_loopw [25] (fun kv wr => ∃ (k : Nat) (o : Option Nat) (v : Value) (T' : List (Nat × Nat × Nat)), k ≤ n ∧ kv = .int .i64 k ∧ T'.length ≤ 2 * k ∧ Hid (Box wr b (b + 1) (b + 2) o v T') ∧ Hid (Below b W1 wr) ∧ Hid (T' ++ sems s.data.toList o (T.drop k) = sems s.data.toList none T)) (fun kv _ => n - (intOf kv).toNat)
  case atStart => exact ⟨0, none, _, [], by omega, rfl, by simp, HBx0, HBl0, Lib.hid rfl⟩
  case round =>
    clear HBx0 HBl0
    obtain ⟨k, o, v, T', hk, rfl, hT', hBx, hBl, hR⟩ := hrel
    by_cases hlt : k < n
    · have j1 : (k : Int) < n := by omega
      have hkl : k < T.length := by rw [← HN.out]; exact hlt
      obtain ⟨⟨K, p, z⟩, hx⟩ : ∃ x, T[k]? = some x := ⟨T[k]'hkl, List.getElem?_eq_getElem hkl⟩
      have hd : T.drop k = (K, p, z) :: T.drop (k + 1) := by rw [List.drop_eq_getElem_cons hkl, (List.getElem?_eq_some_iff.1 hx).2]
      obtain ⟨b1, b2⟩ := HTi.out _ (List.mem_of_getElem? hx)
      dsimp only at b1 b2
      rw [ba_list] at b2
      have hR' := hR.out
      rw [hd] at hR'
      obtain ⟨g, rfl, c0, c1, c2⟩ := (HTA.out.below (by rw [← HBQ.out]; exact hBl.out)) k _ hx
      dsimp only at c0 c1 c2
      obtain ⟨X, hX⟩ : ∃ X, X = s.extract p z := ⟨_, rfl⟩
      have hXl : X.data.toList = textAt s.data.toList (K, p, z) := by rw [hX, Num.extract_take]; rfl
      have hsl := fun w => slice_str s p z (by omega) (by omega) w
      rw [← hX] at hsl
      have hbs := hBl.out.size
      have hbb : b + 1 < wr.heap.size := (Array.getElem?_eq_some_iff.1 hBx.out.opn).1
      have HBW := Lib.hid (fun w2 (h : Below wr.heap.size wr w2) => hBx.out.below h)
      have hlft := fun w => left_any K p z w
      have j2 : (p : Int) < z := by omega
      have j3 : (z : Int) ≤ s.size := by omega
      have hT2 : T'.length ≤ 1048576 := by omega
      have HTL := Lib.hid hT'
      clear hX hd hkl hx hR hT'
      cases hs : silentB K with
      | true =>
        rw [hs] at hlft
        have hix := fun w => Tryz.strings_IndexByte X 10 w
        rw [show ((10 : Int)).toNat.toUInt8 = 10 from rfl] at hix
        obtain ⟨I, hI⟩ : ∃ I, I = Lib.indexByte X.data.toList 10 := ⟨_, rfl⟩
        rw [← hI] at hix
        have hin := Num.indexByte_has 10 X.data.toList
        rw [← hI] at hin
        cases hc : X.data.toList.contains 10 with
        | true =>
          rw [hc] at hin
          have i1 : 0 ≤ I := by have := of_decide_eq_false hin; omega
          have HR2 := Lib.hid (show (T' ++ semiO o) ++ sems s.data.toList none (T.drop (k + 1)) = sems s.data.toList none T by rw [List.append_assoc, ← sems_nl (x := (K, p, z)) hs (by rw [← hXl]; exact hc)]; exact hR')
          clear hR' hXl hs hI hin hc
          go_wp2_with (first
            | (go_at_call 16; refine (hlft _).mono ?_; rintro e w2 ⟨rfl, hw2⟩; have hA2 : Below wr.heap.size wr w2 := (by rw [hw2]; exact ((Below.refl _ _).alloc (Nat.le_refl _) _).alloc (by simp) _); clear hw2)
            | (go_at_call 18; refine (hix _).mono ?_; rintro e w3 ⟨rfl, hw3⟩; rw [hw3]; clear hw3)
            | (go_at_call 17; refine (end_any _ b (b + 1) (b + 2) b o v T' (HBW.out _ hA2) (Nat.le_refl _) (by omega) (by omega) (by have := hA2.size; omega) hT2).mono ?_; rintro e w4 ⟨rfl, ⟨v4, hBx4⟩, hB4⟩; have HX4 := Lib.hid hBx4; have HL4 := Lib.hid (hBl.out.trans ((hA2.mono (by omega)).trans hB4)); clear hBx4 hB4 hA2))
          go_roundw
          case rel => exact ⟨k + 1, none, v4, T' ++ semiO o, by omega, by go_num, by (have := HTL.out; rw [List.length_append]; have := semiO_len o; omega), HX4, HL4, HR2⟩
          case measure => simp [intOf]; omega
        | false =>
          rw [hc] at hin
          have i1 : I < 0 := of_decide_eq_true hin
          have HR2 := Lib.hid (show T' ++ sems s.data.toList o (T.drop (k + 1)) = sems s.data.toList none T by rw [← sems_no (x := (K, p, z)) hs (by rw [← hXl]; exact hc)]; exact hR')
          clear hR' hXl hs hI hin hc
          go_wp2_with (first
            | (go_at_call 16; refine (hlft _).mono ?_; rintro e w2 ⟨rfl, hw2⟩; have hA2 : Below wr.heap.size wr w2 := (by rw [hw2]; exact ((Below.refl _ _).alloc (Nat.le_refl _) _).alloc (by simp) _); clear hw2)
            | (go_at_call 18; refine (hix _).mono ?_; rintro e w3 ⟨rfl, hw3⟩; rw [hw3]; clear hw3))
          go_roundw
          case rel => exact ⟨k + 1, o, v, T', by omega, by go_num, by (have := HTL.out; omega), Lib.hid (HBW.out _ hA2), Lib.hid (hBl.out.trans (hA2.mono (by omega))), HR2⟩
          case measure => simp [intOf]; omega
      | false =>
        rw [hs] at hlft
        have hen := fun w => ends_any K X w
        obtain ⟨q, hq⟩ : ∃ q, q = endsB K X.data.toList := ⟨_, rfl⟩
        rw [← hq] at hen
        obtain ⟨o', ho'⟩ : ∃ o', o' = if q = true then some z else none := ⟨_, rfl⟩
        have hoi : o'.isSome = q := by rw [ho']; cases q <;> rfl
        have hlast : ∀ z', o' = some z' → ∃ T0 k' p', T' ++ [(K, p, z)] = T0 ++ [(k', p', z')] := by
          intro z' h
          rw [ho'] at h
          cases q with
          | false => cases h
          | true =>
            have : z = z' := by injection h
            exact ⟨T', K, p, by rw [this]⟩
        have HR2 := Lib.hid (show (T' ++ [(K, p, z)]) ++ sems s.data.toList o' (T.drop (k + 1)) = sems s.data.toList none T by
          rw [List.append_assoc]
          show T' ++ ((K, p, z) :: sems s.data.toList o' (T.drop (k + 1))) = _
          rw [ho', hq, hXl, ← sems_loud s.data.toList o (K, p, z) _ hs]; exact hR')
        obtain ⟨a', cap', hv, _, _⟩ := own_toks hBx.out.own
        subst hv
        have HOW := Lib.hid hBx.out.own
        have HLA := Lib.hid hlast
        have HOI := Lib.hid hoi
        clear hR' hXl hs hq ho' hoi hlast
        go_wp2_with (first
          | (go_at_call 16; refine (hlft _).mono ?_; rintro e w2 ⟨rfl, hw2⟩; have hA2 : Below wr.heap.size wr w2 := (by rw [hw2]; exact ((Below.refl _ _).alloc (Nat.le_refl _) _).alloc (by simp) _); have hr2 : w2.heap[wr.heap.size]? = some (.cells #[.int .u8 K, .int .i64 p, .int .i64 z] 40 (0, 0)) := (by rw [hw2]; exact (Below.heap_alloc _ _ _ (by simp)).trans (heap_alloc_new wr _)); clear hw2; have HX2 := Lib.hid (HBW.out _ hA2); have cu := HX2.out.cu.1; have d0 := cell_of_row _ _ 0 _ _ _ hr2; have d1 := cell_of_row _ _ 1 _ _ _ hr2; have d2 := cell_of_row _ _ 2 _ _ _ hr2; simp only [List.getElem?_toArray, List.getElem?_cons_zero, List.getElem?_cons_succ] at d0 d1 d2; have HR := Lib.hid hr2; clear hr2)
          | (at_builtin; refine wpList_append_own _ rfl _ _ 23 rfl (b + 2) 40 i0 (.agg #[.int .u8 0, .int .i64 0, .int .i64 0]) 3 24 Tryz.underlying23 hi hy0 hy1 hy2 rfl (by decide) _ _ _ rfl (HX2.out.own.alloc _) ⟨w2.heap.size, 0, none⟩ 1 1 [.int .u8 K, .int .i64 p, .int .i64 z] rfl rfl ?c1 ?c2 ?c3 ?c4 ?c5 ?_))
        case c1 => exact three_new _ _ _ _ _
        case c2 => intro u hu; simp at hu; rcases hu with rfl | rfl | rfl <;> rfl
        case c3 => unfold maxLen; omega
        case c4 => omega
        case c5 => have := hA2.size; simp; omega
        · intro v3 w4 hown3 hg3 _
          obtain ⟨g3, cap3, hv3, _, _⟩ := World.ownsRow.form hown3 (by omega)
          subst hv3
          have hM3 : OwnT w4 (b + 2) (.slice (some ⟨g3, 0, none⟩) (T'.length + 1) cap3) (T' ++ [(K, p, z)]) := by
            unfold OwnT
            rw [tcells_app, List.length_append]
            exact hown3
          have hz2 := hA2.size
          have hlo := fun q hq => HOW.out.lt q hq
          have k1 : w4.heap[b]? = _ := (hg3.block b (by simp; omega) (fun e => by have := (hlo b e.symm).1; omega)).trans ((Below.heap_alloc _ _ _ (by omega)).trans HX2.out.out)
          have k2 : w4.heap[b + 1]? = _ := (hg3.block (b + 1) (by simp; omega) (fun e => by have := (hlo (b + 1) e.symm).1; omega)).trans ((Below.heap_alloc _ _ _ (by omega)).trans HX2.out.opn)
          have k3 : w4.heap[wr.heap.size]? = _ := (hg3.block wr.heap.size (by simp; omega) (fun e => by have := (hlo wr.heap.size e.symm).2; omega)).trans ((Below.heap_alloc _ _ _ (Array.getElem?_eq_some_iff.1 HR.out).1).trans HR.out)
          have hB4 : Below b wr w4 := ((hA2.mono (by omega)).alloc (by omega) _).grown hg3 (by simp; omega) (fun q hq => by have := (hlo q hq).1; omega)
          have f1 : w4.cell? ⟨b, 0, none⟩ = some (.slice a' T'.length cap') := by unfold World.cell?; simp only [k1]; rfl
          have f2 : w4.frozen? ⟨b, 0, none⟩ = false := by unfold World.frozen?; simp [k1]
          have f3 : w4.cell? ⟨b + 1, 0, none⟩ = some (.bool o.isSome) := by unfold World.cell?; simp only [k2]; rfl
          have f4 : w4.frozen? ⟨b + 1, 0, none⟩ = false := by unfold World.frozen?; simp [k2]
          have f5 : w4.cell? ⟨wr.heap.size, 0, none⟩ = some (.int .u8 K) := by unfold World.cell?; simp only [k3]; rfl
          have hP := Box.put k1 k2 hM3 (show b < b + 2 by omega) (show b + 1 < b + 2 by omega) (show b ≠ b + 1 by omega) o' HLA.out
          rw [HOI.out] at hP
          have HP := Lib.hid hP
          have HB5 := Lib.hid (hBl.out.trans ((hB4.setCell (p := ⟨b, 0, none⟩) (Nat.le_refl _) (.slice (some ⟨g3, 0, none⟩) (T'.length + 1) cap3)).setCell (p := ⟨b + 1, 0, none⟩) (Nat.le_succ _) (.bool q)))
          have hne1 : ¬ b = wr.heap.size := by omega
          have hne2 : ¬ wr.heap.size = b := by omega
          clear k1 k2 k3 hB4 hM3 hown3 hg3 hP cu d0 d1 d2 c0 c1 c2 hlo
          go_wp2_with (go_at_call 14; refine (hen _).mono ?_; rintro e w5 ⟨rfl, rfl⟩)
          go_roundw
          case rel => exact ⟨k + 1, o', _, T' ++ [(K, p, z)], by omega, by go_num, by (have := HTL.out; rw [List.length_append]; show T'.length + 1 ≤ _; omega), HP, HB5, HR2⟩
          case measure => simp [intOf]; omega
    · obtain rfl : k = n := by omega
      have hR' := hR.out
      rw [HN.out, List.drop_length] at hR'
      have HRR := Lib.hid (show T' ++ semiO o = sems s.data.toList none T from hR')
      have hbb : b + 1 < wr.heap.size := (Array.getElem?_eq_some_iff.1 hBx.out.opn).1
      clear hR' hR
      go_wp2_with (first
        | (go_at_call 17; refine (end_any _ b (b + 1) (b + 2) b o v T' hBx.out (Nat.le_refl _) (by omega) (by omega) (by omega) (by omega)).mono ?_; rintro e w4 ⟨rfl, ⟨v4, hBx4⟩, hB4⟩; rw [HRR.out] at hBx4; obtain ⟨a4, cap4, hv4, _, _⟩ := own_toks hBx4.own; subst hv4; have cu := hBx4.cu.1; have hBA : Below (w.heap.size + 1) (w.alloc (.cells #[.int .i64 0, .int .i64 0] 26)) w4 := hBw.trans ((hBl.out.trans hB4).mono (by omega)); have HR4 := Lib.hid ((hBA.block w.heap.size (by omega)).trans HH0.out); have HX4 := Lib.hid hBx4; clear hBx4 hB4)
        | (refine wpList_store_rowTo rfl 26 (.tmp 3) (.tmp 57) rfl rfl w.heap.size #[.int .i64 0, .int .i64 0] rfl rfl 26 #[.int .i64 0, .int .i64 0] HR4.out info33 rfl (by simp [Value.oneCell']) ?_))
      (try simp only [Exit.inBlock, Exit.then])
      refine bodyPost_ret (v := .tuple #[_, .agg #[.int .i64 0, .int .i64 0]]) (results_tmp_row (u := 2) (p := 3) rfl _ _ w.heap.size #[.int .i64 0, .int .i64 0] _ rfl rfl (run_loadVar_row _ w.heap.size 26 26 #[.int .i64 0, .int .i64 0] (0, 0) _ (setRow_heap _ _ _ _ _ _ HR4.out) Tryz.underlying26 rfl info33)) rfl ⟨⟨_, rfl, ?_⟩, below_setRow (HB0.out.trans (hBA.mono (by omega))) (Nat.le_refl _) _⟩
      exact toks_mono (toks_own (toks_mono HX4.out.own (by omega))) (Nat.le_succ _)
theorem semi_any (s : ByteArray) (w : World) (hM : Mx w) :
    Calls Tryz.prog 6 #[.string s] w fun e w' => AllOf w.heap.size (semAns s.data.toList) e w' ∧ Below w.heap.size w w' := by
  rcases all_cases s.data.toList with ⟨f, g, h1, h2, h3, h4⟩ | ⟨T, h1, h2, h3⟩
  · unfold semAns
    rw [h1, if_neg h2]
    exact semi_bad s w hM f g h1 h2
  · unfold semAns
    rw [h1, if_pos rfl]
    rw [ba_list] at h2
    exact semi_good s w hM T h1 h2 h3
end Go.Proofs.YtbkmlldhjchhjaaGreat
