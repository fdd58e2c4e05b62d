/-
  Layer 8: contract of the document's Of.
-/
import Derived.Test.YtbkmlldhjchhjaaGreatZc
namespace Go.Proofs.YtbkmlldhjchhjaaGreat
open Go.ChangeShapes Go.WideShapes Go.ChangeAt Go.RowKit
theorem rall_toks (s : ByteArray) (w : World) : Calls Tryz.prog 19 #[.string s] w fun e w' => (∃ a cap, e = .returned (.tuple #[.slice a (allAns s.data.toList).1.length cap, .agg #[.int .i64 (allAns s.data.toList).2.1, .int .i64 (allAns s.data.toList).2.2]]) ∧ Toks w' a (allAns s.data.toList).1 ∧ (allAns s.data.toList).1.length ≤ maxLen) ∧ Below w.heap.size w w' := by
  refine (rall_any s w).mono ?_
  rintro e w' ⟨⟨v, rfl, hO⟩, hB⟩
  obtain ⟨a, cap, rfl, hT, hL⟩ := own_toks hO
  exact ⟨⟨a, cap, rfl, hT, hL⟩, hB⟩
set_option maxRecDepth 100000 in
set_option maxHeartbeats 8000000 in
theorem rof_bad (s : ByteArray) (w : World) (f g : Int) (hA : allAns s.data.toList = ([], f, g)) (hf : f ≠ 0) :
    Calls Tryz.prog 7 #[.string s] w fun e w' => AllOf w.heap.size ([], f, g) e w' ∧ Below w.heap.size w w' := by
  have HB0 := Lib.hid (show Below w.heap.size w (w.alloc (.cells #[.int .i64 0, .int .i64 0] 26)) from (Below.refl _ _).alloc (Nat.le_refl _) _)
  have HH0 := Lib.hid (show (w.alloc (.cells #[.int .i64 0, .int .i64 0] 26)).heap[w.heap.size]? = some (.cells #[.int .i64 0, .int .i64 0] 26) from heap_alloc_new w _)
  have HZ0 := Lib.hid (show (w.alloc (.cells #[.int .i64 0, .int .i64 0] 26)).heap.size = w.heap.size + 1 by simp)
  have h1 := fun w => rall_toks s w
  rw [hA] at h1
  have q1 : (f != 0) = true := by simpa using hf
  clear hA hf
  go_enter Tryz.func7, Tryz.ntmps7
  go_wp2_with (first
    | (go_at_call 19; refine (h1 _).mono ?_; rintro e w1 ⟨⟨a, ca, rfl, hTa, hLn⟩, hB1⟩; replace hB1 := hB1.mono (show w.heap.size + 1 ≤ _ by rw [HZ0.out]; exact Nat.le_refl _); clear hTa hLn))
  have hX1 := heap_alloc_new w1 (.cells #[.int .i64 f, .int .i64 g] 26)
  have hBw := hB1.alloc (by have := hB1.size; rw [HZ0.out] at this; exact this) (.cells #[.int .i64 f, .int .i64 g] 26)
  generalize w1.alloc (.cells #[.int .i64 f, .int .i64 g] 26) = W1 at hX1 hBw ⊢
  have a0 := cell_of_row _ _ 0 _ _ _ hX1; have a1 := cell_of_row _ _ 1 _ _ _ hX1; simp only [List.getElem?_toArray, List.getElem?_cons_zero, List.getElem?_cons_succ] at a0 a1
  clear hX1 hB1
  go_still_tail 2, (by kernel_rfl)
  change wpList _ _ _ _ _ W1.drew
  have hBx := hBw.drew
  have HR := Lib.hid ((hBx.block w.heap.size (by omega)).trans HH0.out)
  clear a0 a1 hBw
  generalize W1.drew = W2 at hBx HR ⊢
  go_wp2_with (refine wpList_store_rowTo rfl 26 (.tmp 3) (.tmp 16) rfl rfl w.heap.size #[.int .i64 f, .int .i64 g] rfl rfl 26 #[.int .i64 0, .int .i64 0] HR.out info33 rfl (by simp [Value.oneCell']) ?_)
  (try simp only [Exit.inBlock, Exit.then])
  refine bodyPost_ret (v := .tuple #[_, .agg #[.int .i64 f, .int .i64 g]]) (results_tmp_row (u := 2) (p := 3) rfl _ _ w.heap.size #[.int .i64 f, .int .i64 g] _ rfl rfl (run_loadVar_row _ w.heap.size 26 26 #[.int .i64 f, .int .i64 g] (0, 0) _ (setRow_heap _ _ _ _ _ _ HR.out) Tryz.underlying26 rfl info33)) rfl ⟨⟨_, rfl, ?_⟩, below_setRow (HB0.out.trans (hBx.mono (by omega))) (Nat.le_refl _) _⟩
  exact World.ownsRow_nil _ _ _ _
set_option maxRecDepth 100000 in
set_option maxHeartbeats 16000000 in
theorem rof_good (s : ByteArray) (w : World) (T : List (Nat × Nat × Nat)) (hA : allAns s.data.toList = (T, 0, 0)) (hs : s.size ≤ 65536) (hT : Tiles s.data.toList 0 T) :
    Calls Tryz.prog 7 #[.string s] w fun e w' => AllOf w.heap.size (sems s.data.toList none T, 0, 0) e w' ∧ Below w.heap.size w w' := by
  have HTi := Lib.hid (tiles_bounds T 0 hT)
  have hTn := tiles_len T 0 hT (Nat.zero_le _)
  rw [ba_list] at hTn
  obtain ⟨i0, hi, hy0, hy1, hy2⟩ := info_parts info26z
  have HB0 := Lib.hid (show Below w.heap.size w (w.alloc (.cells #[.int .i64 0, .int .i64 0] 26)) from (Below.refl _ _).alloc (Nat.le_refl _) _)
  have HH0 := Lib.hid (show (w.alloc (.cells #[.int .i64 0, .int .i64 0] 26)).heap[w.heap.size]? = some (.cells #[.int .i64 0, .int .i64 0] 26) from heap_alloc_new w _)
  have HZ0 := Lib.hid (show (w.alloc (.cells #[.int .i64 0, .int .i64 0] 26)).heap.size = w.heap.size + 1 by simp)
  have h1 := fun w => rall_toks s w
  rw [hA] at h1
  obtain ⟨n, hn⟩ : ∃ n, n = T.length := ⟨_, rfl⟩
  dsimp only at h1
  rw [← hn] at h1 hTn
  have HN := Lib.hid hn
  clear hA hn hT
  go_enter Tryz.func7, Tryz.ntmps7
  go_wp2_with (go_at_call 19; refine (h1 _).mono ?_; rintro e w1 ⟨⟨a, ca, rfl, hTa, hLn⟩, hB1⟩; replace hB1 := hB1.mono (show w.heap.size + 1 ≤ _ by rw [HZ0.out]; exact Nat.le_refl _); have HTA := Lib.hid hTa; clear hTa hLn)
  have hBw := hB1.alloc (by have := hB1.size; rw [HZ0.out] at this; exact this) (.cells #[.int .i64 0, .int .i64 0] 26)
  replace HTA := Lib.hid (HTA.out.below ((Below.refl _ w1).alloc (Nat.le_refl _) (.cells #[.int .i64 0, .int .i64 0] 26)))
  generalize w1.alloc (.cells #[.int .i64 0, .int .i64 0] 26) = W1 at HTA hBw ⊢
  obtain ⟨b, hb⟩ : ∃ b, b = W1.heap.size := ⟨_, rfl⟩
  have hwb : w.heap.size < b := by have := hBw.size; rw [HZ0.out] at this; omega
  have HBQ := Lib.hid hb
  clear h1 hB1 hb
  go_loopw [6, 7] (fun v kv wr => ∃ (k : Nat) (T' : List (Nat × Nat × Nat)), k ≤ n ∧ kv = .int .i64 k ∧ T'.length ≤ 2 * k ∧ Hid (OwnT wr b v T') ∧ Hid (Below b W1 wr) ∧ Hid (T' ++ sems s.data.toList none (T.drop k) = sems s.data.toList none T)) (fun _ kv _ => n - (intOf kv).toNat)
  case atStart => exact ⟨0, [], by omega, rfl, by simp, Lib.hid (World.ownsRow_nil _ _ _ _), Lib.hid (by rw [HBQ.out]; exact Below.refl _ _), Lib.hid rfl⟩
  case round =>
    obtain ⟨k, T', hk, rfl, hT', hO, hBl, hR⟩ := hrel
    by_cases hlt : k < n
    · have j1 : (k : Int) < n := by omega
      have hkl : k < T.length := by rw [← HN.out]; exact hlt
      obtain ⟨⟨K, p, z⟩, hx⟩ : ∃ x, T[k]? = some x := ⟨T[k]'hkl, List.getElem?_eq_getElem hkl⟩
      have hd : T.drop k = (K, p, z) :: T.drop (k + 1) := by rw [List.drop_eq_getElem_cons hkl, (List.getElem?_eq_some_iff.1 hx).2]
      obtain ⟨b1, b2⟩ := HTi.out _ (List.mem_of_getElem? hx)
      dsimp only at b1 b2
      rw [ba_list] at b2
      have hR' := hR.out
      rw [hd] at hR'
      have HTW := Lib.hid (HTA.out.below (by rw [← HBQ.out]; exact hBl.out))
      obtain ⟨g, rfl, c0, c1, c2⟩ := HTW.out k _ hx
      dsimp only at c0 c1 c2
      have hsil := fun w => rsilent_any K w
      cases hs : silentB K with
      | true =>
        rw [hs] at hsil
        rw [sems_silent _ _ _ hs] at hR'
        have HR2 := Lib.hid hR'
        clear hR' hd hx hs
        go_wp2_with (go_at_call 20; refine (hsil _).mono ?_; rintro e w2 ⟨rfl, rfl⟩)
        go_roundw
        case rel => exact ⟨k + 1, T', by omega, by go_num, by omega, hO, hBl, HR2⟩
        case measure => simp [intOf]; omega
      | false =>
        rw [hs] at hsil
        rw [sems_adds _ _ _ hs] at hR'
        have HR2 := Lib.hid hR'
        have hob := fun q hq => (hO.out.lt q hq)
        obtain ⟨g', hg', d0, _, _⟩ := HTA.out k _ hx
        have hgb : g < b := by
          have hg' : g = g' := by injection hg' with hg'; injection hg'
          have := cell_lt d0
          have : g' < W1.heap.size := this
          rw [HBQ.out]; omega
        clear hg' d0
        obtain ⟨X, hX⟩ : ∃ X, X = s.extract p z := ⟨_, rfl⟩
        have hXl : X.data.toList = textAt s.data.toList (K, p, z) := by rw [hX, Num.extract_take]; rfl
        have hsl := fun w => slice_str s p z (by omega) (by omega) w
        rw [← hX] at hsl
        have hen := fun w => rends_any K X w
        have hed := fun w hT => rended_any s (some ⟨g, 0, none⟩) n ca T HN.out.symm k hlt (by omega) (by omega) (fun x hx => by have := HTi.out x hx; rw [ba_list] at this; exact ⟨by omega, this.2⟩) w hT
        obtain ⟨a', cap', hv, _, _⟩ := own_toks hO.out
        subst hv
        clear hR' hd hx hs hX
        go_wp2_with (first
          | (go_at_call 20; refine (hsil _).mono ?_; rintro e w2 ⟨rfl, hw2⟩; rw [hw2]; clear hw2)
          | (at_builtin; refine wpList_append_own _ rfl _ _ 23 rfl b 40 i0 (.agg #[.int .u8 0, .int .i64 0, .int .i64 0]) 3 24 Tryz.underlying23 hi hy0 hy1 hy2 rfl (by decide) _ _ _ rfl (hO.out.alloc _) ⟨_, 0, none⟩ 1 1 [.int .u8 K, .int .i64 p, .int .i64 z] rfl rfl ?c1 ?c2 ?c3 ?c4 ?c5 ?_))
        case c1 => exact three_new _ _ _ _ _
        case c2 => intro u hu; simp at hu; rcases hu with rfl | rfl | rfl <;> rfl
        case c3 => unfold maxLen; omega
        case c4 => omega
        case c5 => have := hBl.out.size; have := HBQ.out; simp; omega
        · intro v3 w4 hown3 hg3 _
          obtain ⟨g3, cap3, hv3, _, _⟩ := World.ownsRow.form hown3 (by omega)
          subst hv3
          have hM3 : OwnT w4 b (.slice (some ⟨g3, 0, none⟩) (T'.length + 1) cap3) (T' ++ [(K, p, z)]) := by
            unfold OwnT
            rw [tcells_app, List.length_append]
            exact hown3
          have hbw := hBl.out.size
          rw [← HBQ.out] at hbw
          have hB4 : Below b wr w4 := (((Below.refl b wr)).alloc (by omega) _).grown hg3 (by simp; omega) (fun q hq => by have := (hob q hq).1; omega)
          have e0 := (hB4.cell (p := ⟨g, k * 3, none⟩) hgb).trans c0
          have e1 := (hB4.cell (p := ⟨g, k * 3 + 1, none⟩) hgb).trans c1
          have e2 := (hB4.cell (p := ⟨g, k * 3 + 2, none⟩) hgb).trans c2
          clear c0 c1 c2 hown3 hg3
          have hg4 := cell_lt e0
          have HT4 := fun w' (h : Below w4.heap.size w4 w') => HTA.out.below (w' := w') (by rw [← HBQ.out]; exact (hBl.out.trans hB4).trans (h.mono (by have := (hBl.out.trans hB4).size; omega)))
          obtain ⟨q, hq⟩ : ∃ q, q = endsB K X.data.toList := ⟨_, rfl⟩
          obtain ⟨d, hd⟩ : ∃ d, d = endedB s.data.toList (T.drop (k + 1)) := ⟨_, rfl⟩
          rw [← hq] at hen
          rw [← hd] at hed
          have HQ := Lib.hid hq
          have HD := Lib.hid hd
          clear hq hd
          go_wp2
          have j0 : (0 : Int) ≤ k := by omega
          have hbw4 : b ≤ w4.heap.size := by have h1 := hB4.size; omega
          have HM4 := Lib.hid hM3
          have HBX := Lib.hid (hBl.out.trans hB4)
          clear hM3 hB4
          cases q with
          | false =>
            have HR5 := Lib.hid (show (T' ++ [(K, p, z)]) ++ sems s.data.toList none (T.drop (k + 1)) = sems s.data.toList none T by
              have := HR2.out
              unfold addsB at this
              rw [if_neg (by rw [← hXl, ← HQ.out]; simp)] at this
              rw [List.append_assoc]; exact this)
            first | (go_region_with (go_at_call 21; (with_reducible refine (hen _).mono ?_); rintro e w6 ⟨rfl, hB6⟩; have hx : Below w4.heap.size w4 w6 := (Below.refl _ w4).drew.trans hB6; clear hB6)) | fail
            all_goals
              go_wp2
              go_roundw
              case rel => exact ⟨k + 1, T' ++ [(K, p, z)], by omega, by go_num, by simp; omega, Lib.hid (toks_below HM4.out hx), Lib.hid (HBX.out.trans (hx.mono hbw4)), HR5⟩
              case measure => simp [intOf]; omega
          | true =>
            go_region_held3 (fun w' => w'.cell? ⟨g, k * 3, none⟩ = some (.int .u8 K) ∧ w'.cell? ⟨g, k * 3 + 1, none⟩ = some (.int .i64 p) ∧ w'.cell? ⟨g, k * 3 + 2, none⟩ = some (.int .i64 z)) (go_keep)
              (first
                | (go_at_call 21; (with_reducible refine (hen _).mono ?_); rintro e w6 ⟨rfl, hB6⟩; have hx : Below w4.heap.size w4 w6 := (Below.refl _ w4).drew.trans hB6; have E0 := (hx.cell (p := ⟨g, k * 3, none⟩) hg4).trans e0; have E1 := (hx.cell (p := ⟨g, k * 3 + 1, none⟩) hg4).trans e1; have E2 := (hx.cell (p := ⟨g, k * 3 + 2, none⟩) hg4).trans e2; clear hB6)
                | (go_at_call 22; (with_reducible refine (hed _ (HT4 _ hx)).mono ?_); rintro e w7 ⟨rfl, hw7⟩; rw [hw7]; clear hw7))
            all_goals
              have hbw6 : b ≤ w6.heap.size := Nat.le_trans hbw4 hx.size
              have HM6 := Lib.hid (toks_below HM4.out hx)
              have HB6 := Lib.hid (HBX.out.trans (hx.mono hbw4))
              clear hx e0 e1 e2
            cases d with
            | false =>
              have HR5 := Lib.hid (show (T' ++ [(K, p, z)]) ++ sems s.data.toList none (T.drop (k + 1)) = sems s.data.toList none T by
                have := HR2.out
                unfold addsB at this
                rw [if_neg (by rw [← HD.out]; simp)] at this
                rw [List.append_assoc]; exact this)
              go_wp2
              go_roundw
              case rel => exact ⟨k + 1, T' ++ [(K, p, z)], by omega, by go_num, by simp; omega, HM6, HB6, HR5⟩
              case measure => simp [intOf]; omega
            | true =>
              have HR5 := Lib.hid (show ((T' ++ [(K, p, z)]) ++ [(9, z, z)]) ++ sems s.data.toList none (T.drop (k + 1)) = sems s.data.toList none T by
                have := HR2.out
                unfold addsB at this
                rw [if_pos ⟨by rw [← hXl, ← HQ.out], by rw [← HD.out]⟩] at this
                rw [List.append_assoc, List.append_assoc]; exact this)
              go_wp2
              have ho6 := HM6.out
              unfold OwnT at ho6
              rw [List.length_append, List.length_singleton] at ho6
              have HO7 := Lib.hid ((ho6.alloc (.cells #[.int .u8 9, .int .i64 z, .int .i64 z] 40)).drew)
              clear ho6
              have HG7 : Hid (∀ (w8 : World), ((w6.alloc (.cells #[.int .u8 9, .int .i64 z, .int .i64 z] 40)).drew).grownBy w8 (some g3) → Below b W1 w8) := Lib.hid (fun w8 hg => HB6.out.trans ((((Below.refl b w6).alloc (by omega) _).drew).grown hg (by simp; omega) (fun q hq => by have := (HM6.out.lt q (by rw [← hq]; rfl)).1; exact this)))
              have hg6 := cell_lt E0
              go_region_law (refine step_append_lies _ rfl _ _ 23 rfl b 40 i0 (.agg #[.int .u8 0, .int .i64 0, .int .i64 0]) 3 24 Tryz.underlying23 hi hy0 hy1 hy2 rfl (by decide) (.slice (some ⟨g3, 0, none⟩) (T'.length + 1) cap3) (T'.length + 1) _ rfl HO7.out ⟨w6.heap.size, 0, none⟩ 1 1 [.int .u8 9, .int .i64 z, .int .i64 z] rfl rfl (fun j u h => three_new w6 _ _ _ 40 j u h) (by intro u hu; simp at hu; rcases hu with rfl | rfl | rfl <;> rfl) (by omega) (by unfold maxLen; omega) (by omega) (by simp; omega) _ rfl ?_; intro g8 cap8 w8 hown8 hg8 hat hlt8; have HM8 : Hid (OwnT w8 b (.slice (some ⟨g8, 0, none⟩) (T'.length + 1 + 1) cap8) ((T' ++ [(K, p, z)]) ++ [(9, z, z)])) := Lib.hid (by unfold OwnT; rw [tcells_app, List.length_append, List.length_append]; exact hown8); have HB8 := Lib.hid (HG7.out _ hg8); clear hown8 hg8 hat hlt8)
              all_goals
                go_wp2
                go_roundw
                case rel => exact ⟨k + 1, (T' ++ [(K, p, z)]) ++ [(9, z, z)], by omega, by go_num, by simp; omega, HM8, HB8, HR5⟩
                case measure => simp [intOf]; omega
    · obtain rfl : k = n := by omega
      have hR' := hR.out
      rw [HN.out, List.drop_length, show sems s.data.toList none [] = [] from rfl, List.append_nil] at hR'
      have HR9 := Lib.hid hR'
      have HB9 := Lib.hid (HB0.out.trans (hBw.mono (show w.heap.size ≤ _ by have := HZ0.out; omega) |>.trans (hBl.out.mono (by omega))))
      have HH9 := Lib.hid ((hBl.out.block w.heap.size hwb).trans ((hBw.block w.heap.size (by have := HZ0.out; omega)).trans HH0.out))
      have HO9 := Lib.hid (toks_mono hO.out (show w.heap.size + 1 ≤ b by omega))
      clear hR' hR hBl hO
      go_wp2_with (refine wpList_store_rowTo rfl 26 (.tmp 3) (.tmp 75) rfl rfl w.heap.size #[.int .i64 0, .int .i64 0] rfl rfl 26 #[.int .i64 0, .int .i64 0] HH9.out info33 rfl (by simp [Value.oneCell']) ?_)
      (try simp only [Exit.inBlock, Exit.then])
      refine bodyPost_ret (v := .tuple #[_, .agg #[.int .i64 0, .int .i64 0]]) (results_tmp_row (u := 2) (p := 3) rfl _ _ w.heap.size #[.int .i64 0, .int .i64 0] _ rfl rfl (run_loadVar_row _ w.heap.size 26 26 #[.int .i64 0, .int .i64 0] (0, 0) _ (setRow_heap _ _ _ _ _ _ HH9.out) Tryz.underlying26 rfl info33)) rfl ⟨⟨_, rfl, ?_⟩, below_setRow HB9.out (Nat.le_refl _) _⟩
      rw [← HR9.out]
      exact toks_mono (toks_own HO9.out) (Nat.le_succ _)
end Go.Proofs.YtbkmlldhjchhjaaGreat
