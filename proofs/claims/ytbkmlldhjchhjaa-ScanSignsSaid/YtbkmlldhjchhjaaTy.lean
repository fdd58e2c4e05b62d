/-
  Layer 7: contract of the law ScanSigns.
-/
import Derived.Test.YtbkmlldhjchhjaaTc
namespace Go.Proofs.Ytbkmlldhjchhjaa
open Go.ChangeShapes Go.WideShapes Go.ChangeAt Go.RowKit

theorem signs_alone : signs.map (fun x => (lexV x 0, cleanAt x x.length 0, wide x)) = signs.map (fun x => ((8, x.length), -1, 1)) := by kernel_rfl
theorem sign_alone {x : List UInt8} (hx : x ∈ signs) : oneAns x 0 = (#[.int .u8 8, .int .i64 0, .int .i64 x.length], 0) := by
  have h := List.map_inj_left.1 signs_alone x hx
  obtain ⟨h1, h2⟩ := Prod.mk.inj h
  obtain ⟨h2, h3⟩ := Prod.mk.inj h2
  have hs := (signs_small x hx).1
  unfold oneAns
  rw [if_neg (by omega), show ((0 : Int)).toNat = 0 from rfl, List.drop_zero, h2, h3, if_neg (by omega), h1]
  rfl
set_option maxRecDepth 100000 in
set_option maxHeartbeats 16000000 in
theorem lawsigns_any (w : World) (hM : Mx w) :
    Calls Try.prog 8 #[] w fun e w' => e = .returned (.bool true) ∧ Below w.heap.size w w' := by
  have hM0 := hM.lt
  have HM := Lib.hid hM
  clear hM
  go_enter Try.func8, Try.ntmps8
  go_wp2_with (go_at_call 25; refine (rsigns_any _).mono ?_; rintro e w1 ⟨rfl, hw1⟩; have hP := strs_new w 9 _ signs rfl; rw [← hw1] at hP; have hB1 : Below w.heap.size w w1 := (by rw [hw1]; exact (Below.refl _ _).alloc (Nat.le_refl _) _); have HP := Lib.hid hP; clear hP hw1)
  go_loopw [2] (fun iv wr => ∃ i : Nat, i ≤ 47 ∧ iv = .int .i64 i ∧ Below w1.heap.size w1 wr) (fun iv _ => 47 - (intOf iv).toNat)
  case atStart => exact ⟨0, by omega, rfl, Below.refl _ _⟩
  case round =>
    obtain ⟨i, hi, rfl, hB⟩ := hrel
    by_cases hlt : i < 47
    · obtain ⟨x, hx⟩ : ∃ x, signs[i]? = some x := ⟨signs[i]'hlt, List.getElem?_eq_getElem hlt⟩
      have hmem := List.mem_of_getElem? hx
      have hsm := signs_small x hmem
      have hal := sign_alone hmem
      have hc1 := (hB.cell (p := ⟨w.heap.size, i, none⟩) (cell_lt (HP.out i x hx))).trans (HP.out i x hx)
      have HPI := Lib.hid (HP.out i x hx)
      obtain ⟨S, hS⟩ : ∃ S : ByteArray, S = ⟨x.toArray⟩ := ⟨_, rfl⟩
      rw [← hS] at hc1 HPI
      have hSl : S.data.toList = x := by rw [hS]
      have hSz : x.length = S.size := by rw [← hSl]; simp
      have hsa : ∀ w, Mx w → Calls Try.prog 20 #[.string S, .int .i64 0] w fun e w' => e = .returned (.tuple #[.agg #[.int .u8 8, .int .i64 0, .int .i64 S.size], .int .i64 0]) ∧ Below w.heap.size w w' := fun w hM => by
        have h := one_any S (by omega) 0 w hM
        rw [hSl, hal, hSz] at h
        exact h
      have HMR := Lib.hid (HM.out.below (below_chain hB1 hB) hM0)
      have hS3 : S.size ≤ 3 := by omega
      have hne := fun w => tok_neqI 8 0 S.size w
      have hgd := fun u v w => tok_guard u v #[.int .u8 8, .int .i64 0, .int .i64 S.size] #[.int .u8 8, .int .i64 0, .int .i64 S.size] w
      have j1 : (i : Int) < 47 := by omega
      clear hx hmem hsm hal hS hSl hSz
      go_wp2_with (first
        | (go_at_call 20; refine (hsa _ HMR.out).mono ?_; rintro e w2 ⟨rfl, hB2⟩)
        | (refine wpList_store_rowTo rfl 26 (.tmp 3) (.tmp 23) rfl rfl w2.heap.size #[.int .u8 8, .int .i64 0, .int .i64 S.size] rfl rfl 26 #[.int .u8 0, .int .i64 0, .int .i64 0] (heap_alloc_new w2 _) info26 rfl (by simp [Value.oneCell']) ?_; have hX1 := setRow_heap _ w2.heap.size _ #[.int .u8 8, .int .i64 0, .int .i64 S.size] _ _ (heap_alloc_new w2 (.cells #[.int .u8 0, .int .i64 0, .int .i64 0] 26)); have hY1 : Below w2.heap.size w2 _ := below_setRow ((Below.refl _ w2).alloc (Nat.le_refl _) (.cells #[.int .u8 0, .int .i64 0, .int .i64 0] 26)) (Nat.le_refl _) #[.int .u8 8, .int .i64 0, .int .i64 S.size]; have hz1 : w2.heap.size < ((w2.alloc (.cells #[.int .u8 0, .int .i64 0, .int .i64 0] 26)).setRow w2.heap.size #[.int .u8 8, .int .i64 0, .int .i64 S.size]).heap.size := (Array.getElem?_eq_some_iff.1 hX1).1; generalize (w2.alloc (.cells #[.int .u8 0, .int .i64 0, .int .i64 0] 26)).setRow w2.heap.size #[.int .u8 8, .int .i64 0, .int .i64 S.size] = W2 at hX1 hY1 hz1 ⊢; have HX1 := Lib.hid hX1; clear hX1; have R1 := HX1.out; have a0 := cell_of_row _ _ 0 _ _ _ R1; have a1 := cell_of_row _ _ 1 _ _ _ R1; have a2 := cell_of_row _ _ 2 _ _ _ R1; simp only [List.getElem?_toArray, List.getElem?_cons_zero, List.getElem?_cons_succ] at a0 a1 a2; have hBW := hB.trans ((below_chain hB2 hY1).mono hB.size); have hd1 := (hBW.cell (p := ⟨w.heap.size, i, none⟩) (cell_lt HPI.out)).trans HPI.out; clear R1 hB2 hY1 HX1 hz1 hc1))
      go_quiet (fail)
      go_wp2
      clear hd1 a0 a1 a2 hne hgd hsa HMR
      go_loopw [5] (fun kv wx => ∃ k : Nat, k ≤ 47 ∧ kv = .int .i64 k ∧ Below w1.heap.size w1 wx) (fun kv _ => 47 - (intOf kv).toNat)
      case atStart => exact ⟨0, by omega, rfl, below_drewN hBW _⟩
      case round =>
        clear hBW
        obtain ⟨k, hk, rfl, hBx⟩ := hrel
        by_cases hlk : k < 47
        · obtain ⟨y, hy⟩ : ∃ y, signs[k]? = some y := ⟨signs[k]'hlk, List.getElem?_eq_getElem hlk⟩
          have hsy := signs_small y (List.mem_of_getElem? hy)
          have HPK := Lib.hid (HP.out k y hy)
          have hc1 := (hBx.cell (p := ⟨w.heap.size, i, none⟩) (cell_lt HPI.out)).trans HPI.out
          have hc2 := (hBx.cell (p := ⟨w.heap.size, k, none⟩) (cell_lt HPK.out)).trans HPK.out
          obtain ⟨Y, hY⟩ : ∃ Y : ByteArray, Y = ⟨y.toArray⟩ := ⟨_, rfl⟩
          rw [← hY] at hc2 HPK
          have hYz : Y.size = y.length := by rw [hY]; simp [ByteArray.size]
          have hlen : (S ++ Y ++ ⟨#[32]⟩ : ByteArray).size ≤ 1048576 := by
            rw [ByteArray.size_append, ByteArray.size_append, show (⟨#[32]⟩ : ByteArray).size = 1 from rfl]; omega
          have h1 := fun w hM => one_any (S ++ Y ++ ⟨#[32]⟩) (by omega) 0 w hM
          have h2 := fun w => rone_any (S ++ Y ++ ⟨#[32]⟩) hlen 0 w
          obtain ⟨p, q, r, hT⟩ := oneAns_row (S ++ Y ++ ⟨#[32]⟩ : ByteArray).data.toList 0
          unfold oneV at h1 h2
          rw [hT] at h1 h2
          obtain ⟨E, hE⟩ : ∃ E, E = (oneAns (S ++ Y ++ ⟨#[32]⟩ : ByteArray).data.toList 0).2 := ⟨_, rfl⟩
          rw [← hE] at h1 h2
          have hne := fun w => tok_neqI p q r w
          have hgd := fun u v w => tok_guard u v #[.int .u8 p, .int .i64 q, .int .i64 r] #[.int .u8 p, .int .i64 q, .int .i64 r] w
          have j2 : (k : Int) < 47 := by omega
          have s1 : ¬ 9223372036854775807 < S.size + Y.size := by omega
          have s2 : ¬ 9223372036854775807 < S.size + Y.size + 1 := by omega
          clear hT hE hy hsy hY hYz hlen
          have ha1 := fun w => run_string_add_sum (P := Try.prog) w S Y (by omega)
          have ha2 := fun w => run_string_add_sum (P := Try.prog) w (S ++ Y) ⟨#[32]⟩ (by rw [ByteArray.size_append]; show _ + 1 ≤ _; omega)
          have hgl : w.heap.size < wr.heap.size := cell_lt hc1
          have hn1 := World.new_ne wr _ hc1
          have hn2 := World.new_ne wr _ hc2
          have HMX := Lib.hid (HM.out.below (below_chain hB1 hBx) hM0)
          clear s1 s2
          go_wp2
          go_region_held3 (fun w' => w'.cell? ⟨w.heap.size, i, none⟩ = some (.string S) ∧ w'.cell? ⟨w.heap.size, k, none⟩ = some (.string Y)) (go_keep)
          ((go_at_call 20; refine (h1 _ (by first | exact HMX.out | exact HMX.out.alloc _)).mono ?_; rintro e w3 ⟨rfl, hB3⟩; obtain ⟨hc, hf⟩ := bcell hB3; have E1 : w3.cell? ⟨w.heap.size, i, none⟩ = some (.string S) := (hc _ _ (by first | exact hgl | (simp; omega))).trans (by first | exact hc1 | exact (World.cell?_alloc_lt wr _ _ hgl).trans hc1); have E2 : w3.cell? ⟨w.heap.size, k, none⟩ = some (.string Y) := (hc _ _ (by first | exact hgl | (simp; omega))).trans (by first | exact hc2 | exact (World.cell?_alloc_lt wr _ _ hgl).trans hc2)))
          all_goals clear h1
          all_goals go_wp2
          · have hX0 : Below wr.heap.size wr w3 := (Below.refl _ wr).drew.trans hB3
            have hX : Below wr.heap.size wr (w3.alloc (.cells #[.int .u8 p, .int .i64 q, .int .i64 r] 26)) := hX0.alloc hX0.size _
            have H := heap_alloc_new w3 (.cells #[.int .u8 p, .int .i64 q, .int .i64 r] 26)
            have hbz : wr.heap.size ≤ w3.heap.size := hX0.size
            clear hX0 hB3 hc hf
            try clear E1 E2
            generalize (w3.alloc (.cells #[.int .u8 p, .int .i64 q, .int .i64 r] 26)) = X at hX H ⊢
            have H6 := H
            have hb6 := (Array.getElem?_eq_some_iff.1 H6).1
            have hBx6 := hBx.trans (hX.mono hBx.size)
            have hd1 := (hX.cell (p := ⟨w.heap.size, i, none⟩) (cell_lt hc1)).trans hc1
            have hd2 := (hX.cell (p := ⟨w.heap.size, k, none⟩) (cell_lt hc2)).trans hc2
            clear H hX hc1 hc2 hn1 hn2 hgl hbz
            have hc1 := hd1
            have hc2 := hd2
            clear hd1 hd2
            have hgl : w.heap.size < X.heap.size := cell_lt hc1
            have hn1 := World.new_ne X _ hc1
            have hn2 := World.new_ne X _ hc2
            go_region_held3 (fun w' => w'.cell? ⟨w.heap.size, i, none⟩ = some (.string S) ∧ w'.cell? ⟨w.heap.size, k, none⟩ = some (.string Y)) (go_keep)
            ((go_at_call 21; refine (h2 _).mono ?_; rintro e w4 ⟨rfl, hB3⟩; obtain ⟨hc, hf⟩ := bcell hB3; have E1 : w4.cell? ⟨w.heap.size, i, none⟩ = some (.string S) := (hc _ _ (by first | exact hgl | (simp; omega))).trans (by first | exact hc1 | exact (World.cell?_alloc_lt X _ _ hgl).trans hc1); have E2 : w4.cell? ⟨w.heap.size, k, none⟩ = some (.string Y) := (hc _ _ (by first | exact hgl | (simp; omega))).trans (by first | exact hc2 | exact (World.cell?_alloc_lt X _ _ hgl).trans hc2)))
            · have hX0 : Below X.heap.size X w4 := (Below.refl _ X).drew.trans hB3
              have hX : Below X.heap.size X (w4.alloc (.cells #[.int .u8 p, .int .i64 q, .int .i64 r] 26)) := hX0.alloc hX0.size _
              have H := heap_alloc_new w4 (.cells #[.int .u8 p, .int .i64 q, .int .i64 r] 26)
              clear hX0 hB3 hc hf
              try clear E1 E2
              generalize (w4.alloc (.cells #[.int .u8 p, .int .i64 q, .int .i64 r] 26)) = X2 at hX H ⊢
              have G := (hX.block w3.heap.size hb6).trans H6
              have a0 := cell_of_row _ _ 0 _ _ _ G
              have a1 := cell_of_row _ _ 1 _ _ _ G
              have a2 := cell_of_row _ _ 2 _ _ _ G
              have b0 := cell_of_row _ _ 0 _ _ _ H
              have b1 := cell_of_row _ _ 1 _ _ _ H
              have b2 := cell_of_row _ _ 2 _ _ _ H
              simp only [List.getElem?_toArray, List.getElem?_cons_zero, List.getElem?_cons_succ] at a0 a1 a2 b0 b1 b2
              have hBz := hBx6.trans (hX.mono hBx6.size)
              clear G H hX H6 hn1 hn2 hc1 hc2 ha1 ha2 h2
              go_wp2
              go_roundw
              case rel => exact ⟨k + 1, by omega, by go_num, hBz⟩
              case measure => simp [intOf]; omega
            · have hX0 : Below X.heap.size X w4 := ((Below.refl _ X).alloc (Nat.le_refl _) _).drew.trans (hB3.mono (by simp))
              have H0 := (hB3.block X.heap.size (by simp)).trans (heap_alloc_new X (.cells #[.int .u8 0, .int .i64 0, .int .i64 0] 26))
              have H := row_three (x := .int .u8 p) (y := .int .i64 q) (z := .int .i64 r) H0
              have hX := ((hX0.setCell (p := ⟨X.heap.size, 0, none⟩) (Nat.le_refl _) (.int .u8 p)).setCell (p := ⟨X.heap.size, 1, none⟩) (Nat.le_refl _) (.int .i64 q)).setCell (p := ⟨X.heap.size, 2, none⟩) (Nat.le_refl _) (.int .i64 r)
              clear hX0 H0 hB3 hc hf
              try clear E1 E2
              generalize (((w4.setCell ⟨X.heap.size, 0, none⟩ (.int .u8 p)).setCell ⟨X.heap.size, 1, none⟩ (.int .i64 q)).setCell ⟨X.heap.size, 2, none⟩ (.int .i64 r)) = X2 at hX H ⊢
              have G := (hX.block w3.heap.size hb6).trans H6
              have a0 := cell_of_row _ _ 0 _ _ _ G
              have a1 := cell_of_row _ _ 1 _ _ _ G
              have a2 := cell_of_row _ _ 2 _ _ _ G
              have b0 := cell_of_row _ _ 0 _ _ _ H
              have b1 := cell_of_row _ _ 1 _ _ _ H
              have b2 := cell_of_row _ _ 2 _ _ _ H
              simp only [List.getElem?_toArray, List.getElem?_cons_zero, List.getElem?_cons_succ] at a0 a1 a2 b0 b1 b2
              have hBz := hBx6.trans (hX.mono hBx6.size)
              clear G H hX H6 hn1 hn2 hc1 hc2 ha1 ha2 h2
              go_wp2
              go_roundw
              case rel => exact ⟨k + 1, by omega, by go_num, hBz⟩
              case measure => simp [intOf]; omega
          · have hX0 : Below wr.heap.size wr w3 := ((Below.refl _ wr).alloc (Nat.le_refl _) _).drew.trans (hB3.mono (by simp))
            have H0 := (hB3.block wr.heap.size (by simp)).trans (heap_alloc_new wr (.cells #[.int .u8 0, .int .i64 0, .int .i64 0] 26))
            have H := row_three (x := .int .u8 p) (y := .int .i64 q) (z := .int .i64 r) H0
            have hX := ((hX0.setCell (p := ⟨wr.heap.size, 0, none⟩) (Nat.le_refl _) (.int .u8 p)).setCell (p := ⟨wr.heap.size, 1, none⟩) (Nat.le_refl _) (.int .i64 q)).setCell (p := ⟨wr.heap.size, 2, none⟩) (Nat.le_refl _) (.int .i64 r)
            clear hX0 H0 hB3 hc hf
            try clear E1 E2
            generalize (((w3.setCell ⟨wr.heap.size, 0, none⟩ (.int .u8 p)).setCell ⟨wr.heap.size, 1, none⟩ (.int .i64 q)).setCell ⟨wr.heap.size, 2, none⟩ (.int .i64 r)) = X at hX H ⊢
            have hbz := True.intro
            have H6 := H
            have hb6 := (Array.getElem?_eq_some_iff.1 H6).1
            have hBx6 := hBx.trans (hX.mono hBx.size)
            have hd1 := (hX.cell (p := ⟨w.heap.size, i, none⟩) (cell_lt hc1)).trans hc1
            have hd2 := (hX.cell (p := ⟨w.heap.size, k, none⟩) (cell_lt hc2)).trans hc2
            clear H hX hc1 hc2 hn1 hn2 hgl hbz
            have hc1 := hd1
            have hc2 := hd2
            clear hd1 hd2
            have hgl : w.heap.size < X.heap.size := cell_lt hc1
            have hn1 := World.new_ne X _ hc1
            have hn2 := World.new_ne X _ hc2
            go_region_held3 (fun w' => w'.cell? ⟨w.heap.size, i, none⟩ = some (.string S) ∧ w'.cell? ⟨w.heap.size, k, none⟩ = some (.string Y)) (go_keep)
            ((go_at_call 21; refine (h2 _).mono ?_; rintro e w4 ⟨rfl, hB3⟩; obtain ⟨hc, hf⟩ := bcell hB3; have E1 : w4.cell? ⟨w.heap.size, i, none⟩ = some (.string S) := (hc _ _ (by first | exact hgl | (simp; omega))).trans (by first | exact hc1 | exact (World.cell?_alloc_lt X _ _ hgl).trans hc1); have E2 : w4.cell? ⟨w.heap.size, k, none⟩ = some (.string Y) := (hc _ _ (by first | exact hgl | (simp; omega))).trans (by first | exact hc2 | exact (World.cell?_alloc_lt X _ _ hgl).trans hc2)))
            · have hX0 : Below X.heap.size X w4 := (Below.refl _ X).drew.trans hB3
              have hX : Below X.heap.size X (w4.alloc (.cells #[.int .u8 p, .int .i64 q, .int .i64 r] 26)) := hX0.alloc hX0.size _
              have H := heap_alloc_new w4 (.cells #[.int .u8 p, .int .i64 q, .int .i64 r] 26)
              clear hX0 hB3 hc hf
              try clear E1 E2
              generalize (w4.alloc (.cells #[.int .u8 p, .int .i64 q, .int .i64 r] 26)) = X2 at hX H ⊢
              have G := (hX.block wr.heap.size hb6).trans H6
              have a0 := cell_of_row _ _ 0 _ _ _ G
              have a1 := cell_of_row _ _ 1 _ _ _ G
              have a2 := cell_of_row _ _ 2 _ _ _ G
              have b0 := cell_of_row _ _ 0 _ _ _ H
              have b1 := cell_of_row _ _ 1 _ _ _ H
              have b2 := cell_of_row _ _ 2 _ _ _ H
              simp only [List.getElem?_toArray, List.getElem?_cons_zero, List.getElem?_cons_succ] at a0 a1 a2 b0 b1 b2
              have hBz := hBx6.trans (hX.mono hBx6.size)
              clear G H hX H6 hn1 hn2 hc1 hc2 ha1 ha2 h2
              go_wp2
              go_roundw
              case rel => exact ⟨k + 1, by omega, by go_num, hBz⟩
              case measure => simp [intOf]; omega
            · have hX0 : Below X.heap.size X w4 := ((Below.refl _ X).alloc (Nat.le_refl _) _).drew.trans (hB3.mono (by simp))
              have H0 := (hB3.block X.heap.size (by simp)).trans (heap_alloc_new X (.cells #[.int .u8 0, .int .i64 0, .int .i64 0] 26))
              have H := row_three (x := .int .u8 p) (y := .int .i64 q) (z := .int .i64 r) H0
              have hX := ((hX0.setCell (p := ⟨X.heap.size, 0, none⟩) (Nat.le_refl _) (.int .u8 p)).setCell (p := ⟨X.heap.size, 1, none⟩) (Nat.le_refl _) (.int .i64 q)).setCell (p := ⟨X.heap.size, 2, none⟩) (Nat.le_refl _) (.int .i64 r)
              clear hX0 H0 hB3 hc hf
              try clear E1 E2
              generalize (((w4.setCell ⟨X.heap.size, 0, none⟩ (.int .u8 p)).setCell ⟨X.heap.size, 1, none⟩ (.int .i64 q)).setCell ⟨X.heap.size, 2, none⟩ (.int .i64 r)) = X2 at hX H ⊢
              have G := (hX.block wr.heap.size hb6).trans H6
              have a0 := cell_of_row _ _ 0 _ _ _ G
              have a1 := cell_of_row _ _ 1 _ _ _ G
              have a2 := cell_of_row _ _ 2 _ _ _ G
              have b0 := cell_of_row _ _ 0 _ _ _ H
              have b1 := cell_of_row _ _ 1 _ _ _ H
              have b2 := cell_of_row _ _ 2 _ _ _ H
              simp only [List.getElem?_toArray, List.getElem?_cons_zero, List.getElem?_cons_succ] at a0 a1 a2 b0 b1 b2
              have hBz := hBx6.trans (hX.mono hBx6.size)
              clear G H hX H6 hn1 hn2 hc1 hc2 ha1 ha2 h2
              go_wp2
              go_roundw
              case rel => exact ⟨k + 1, by omega, by go_num, hBz⟩
              case measure => simp [intOf]; omega
        · obtain rfl : k = 47 := by omega
          go_wp2
          go_roundw
          case rel => exact ⟨i + 1, by omega, by go_num, hBx⟩
          case measure => simp [intOf]; omega
    · obtain rfl : i = 47 := by omega
      go_wp2_with (go_at_call 17; refine (fixed7_any _ (HM.out.below (below_chain hB1 hB) hM0)).mono ?_; rintro e w3 ⟨rfl, hB5⟩)
      go_ret
      exact ⟨rfl, below_chain (below_chain hB1 hB) hB5⟩
end Go.Proofs.Ytbkmlldhjchhjaa
