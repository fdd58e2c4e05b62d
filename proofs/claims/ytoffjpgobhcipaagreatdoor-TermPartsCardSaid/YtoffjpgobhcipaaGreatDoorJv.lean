/-
  Layer 11: the law TermParts.
-/
import Derived.Test.YtoffjpgobhcipaaGreatDoorKf
namespace Go.Proofs.YtoffjpgobhcipaaGreatDoor.Trm
open Go.ChangeShapes Go.WideShapes Go.ChangeAt Go.RowKit

theorem ints_of {w : World} {B : Nat} {v : Value} {xs : List Int} (h : MineI w B v xs) : ∃ a cap, v = .slice a xs.length cap ∧ IntsAt w a xs := by
  obtain ⟨a, cap, h1, h2, _⟩ := mineI_ints h
  exact ⟨a, cap, h1, h2⟩
set_option maxRecDepth 100000 in
set_option maxHeartbeats 8000000 in
theorem lawparts_any (w : World) (a : Option Addr) (n cap : Nat) (l : List Pt) (hl : Parts w a n l) (hn : n ≤ 4398046511104) (z : Int) (hTab : Tab w) (hE : Errs w) :
    Calls Tryz.prog 5 #[.slice a n cap, .int .i64 z] w fun e w' => e = .returned (.bool true) ∧ Below w.heap.size w w' := by
  have HT := Lib.hid hTab
  have HE := Lib.hid hE
  have HL := Lib.hid hl
  have hln := hl.1
  clear hTab hE hl
  by_cases hbig : (200 : Int) < n
  · go_enter Tryz.func5, Tryz.ntmps5
    go_wp2_with (go_at_call 10; refine (fixed_any _ HT.out HE.out).mono ?_; rintro e w2 ⟨rfl, hB2⟩)
    go_ret
    exact ⟨rfl, hB2⟩
  have he := fun w (hl : Parts w a n l) => End_any w a n cap l hl hn z
  have hu := fun w (hl : Parts w a n l) => Up_any w a n cap l hl hn z
  have hk := fun w (hl : Parts w a n l) => Kids_any w a n cap l hl hn z
  have hw := fun w (hl : Parts w a n l) => rwell_any w a n cap l hl (by omega)
  by_cases hh : hasP l z = true
  · have hwb : wellB (kidsP l) = true ∧ 0 ≤ z ∧ z < n := by
      unfold hasP at hh
      simp only [Bool.and_eq_true, decide_eq_true_eq] at hh
      rw [hln] at hh
      exact ⟨hh.2, hh.1.1, hh.1.2⟩
    obtain ⟨hq, hz0, hzn⟩ := hwb
    obtain ⟨i, rfl⟩ : ∃ i : Nat, z = i := ⟨z.toNat, by omega⟩
    have hlk : (kidsP l).length = n := by rw [kidsP_len]; exact hln
    have hin : i < n := by omega
    have e1 : endI l i = ((endN (kidsP l) i : Nat) : Int) := by unfold endI; rw [if_pos hh, Int.toNat_natCast]
    have e2 : upI l i = upN (kidsP l) i := by unfold upI; rw [if_pos hh, Int.toNat_natCast]
    have e3 : kidsI l i = natsI (kidsN (kidsP l) i) := by unfold kidsI; rw [if_pos hh, Int.toNat_natCast]
    rw [e1] at he
    rw [e2] at hu
    rw [e3] at hk
    rw [hq] at hw
    have hre := fun w (hl : Parts w a n l) => rend_any w a n cap l hl (by omega) i (by omega)
    rw [endZ_well hq (by rw [hlk]; exact hin)] at hre
    have hru := fun w (hl : Parts w a n l) => rup_any w a n cap l hl (by omega) hq i hin
    have hrk := fun w (hl : Parts w a n l) => rkids_any w a n cap l hl (by omega) hq i hin
    have hxl : (natsI (kidsN (kidsP l) i)).length ≤ maxLen := by
      have h1 : (natsI (kidsN (kidsP l) i)).length = ((kidsP l).getD i 0).toNat := by unfold natsI kidsN; rw [List.length_map, kids_len]
      have h2 := kids_le hq (u := i) (k := (kidsP l).getD i 0) (by rw [List.getD_eq_getElem?_getD, List.getElem?_eq_getElem (by rw [hlk]; exact hin)]; rfl)
      rw [hlk] at h2
      unfold maxLen
      omega
    generalize endN (kidsP l) i = E at he hre
    generalize upN (kidsP l) i = U at hu hru
    generalize natsI (kidsN (kidsP l) i) = X at hk hrk hxl
    clear e1 e2 e3 hh hlk hq hz0
    go_enter Tryz.func5, Tryz.ntmps5
    go_wp2_with (first
      | (go_at_call 15; refine (he _ HL.out).mono ?_; rintro e w2 ⟨rfl, hB2⟩; have HB2 := Lib.hid hB2; clear hB2)
      | (go_at_call 16; refine (hu _ (parts_below HL.out HB2.out)).mono ?_; rintro e w3 ⟨rfl, hB3⟩; have HB3 := Lib.hid (HB2.out.trans (hB3.mono HB2.out.size)); clear hB3)
      | (go_at_call 17; refine (hk _ (parts_below HL.out HB3.out)).mono ?_; rintro e w4 ⟨⟨v4, rfl, hM4⟩, hB4⟩; obtain ⟨a4, c4, rfl, hI4⟩ := ints_of hM4; have HB4 := Lib.hid (HB3.out.trans (hB4.mono HB3.out.size)); clear hM4 hB4)
      | (go_at_call 12; refine (hw _ (parts_below HL.out HB4.out)).mono ?_; rintro e w5 ⟨rfl, rfl⟩)
      | (go_at_call 10; refine (fixed_any _ (tab_below HT.out HB4.out) (errs_below HE.out HB4.out)).mono ?_; rintro e w6 ⟨rfl, hB6⟩; have HB6 := Lib.hid (HB4.out.trans (hB6.mono HB4.out.size)); have hI6 := hI4.below hB6; clear hB6)
      | (go_at_call 18; refine (hre _ (parts_below HL.out HB6.out)).mono ?_; rintro e w7 ⟨rfl, rfl⟩)
      | (go_at_call 19; refine (hru _ (parts_below HL.out HB6.out)).mono ?_; rintro e w7 ⟨rfl, rfl⟩)
      | (go_at_call 21; refine (hrk _ (parts_below HL.out HB6.out)).mono ?_; rintro e w8 ⟨⟨v8, rfl, hM8⟩, hB8⟩; obtain ⟨a8, c8, rfl, hI8⟩ := ints_of hM8; have hI68 := hI6.below hB8; have HB8 := Lib.hid (HB6.out.trans (hB8.mono HB6.out.size)); clear hM8 hB8)
      | (go_at_call 20; refine (ints_any _ _ _ _ _ _ _ _ _ hI68 hI8 rfl rfl hxl).mono ?_; rintro e w9 ⟨rfl, hB9⟩; have HB9 := Lib.hid (HB8.out.trans (hB9.mono HB8.out.size)); clear hB9))
    go_ret
    exact ⟨by simp, HB9.out⟩
  · have e1 : endI l z = -1 := by unfold endI; rw [if_neg hh]
    have e2 : upI l z = -1 := by unfold upI; rw [if_neg hh]
    have e3 : kidsI l z = [] := by unfold kidsI; rw [if_neg hh]
    rw [e1] at he
    rw [e2] at hu
    rw [e3] at hk
    have hcase : wellB (kidsP l) = false ∨ (wellB (kidsP l) = true ∧ z < 0) ∨ (wellB (kidsP l) = true ∧ ¬ z < 0 ∧ (n : Int) ≤ z) := by
      cases hq : wellB (kidsP l) with
      | false => exact .inl rfl
      | true =>
        by_cases h1 : z < 0
        · exact .inr (.inl ⟨rfl, h1⟩)
        · refine .inr (.inr ⟨rfl, h1, ?_⟩)
          unfold hasP at hh
          rw [hq, hln] at hh
          simp only [Bool.and_true, Bool.and_eq_true, decide_eq_true_eq] at hh
          omega
    clear e1 e2 e3 hh
    rcases hcase with hq | ⟨hq, d1⟩ | ⟨hq, d1, d2⟩
    all_goals
      rw [hq] at hw
      clear hq
      go_enter Tryz.func5, Tryz.ntmps5
      go_wp2_with (first
        | (go_at_call 15; refine (he _ HL.out).mono ?_; rintro e w2 ⟨rfl, hB2⟩; have HB2 := Lib.hid hB2; clear hB2)
        | (go_at_call 16; refine (hu _ (parts_below HL.out HB2.out)).mono ?_; rintro e w3 ⟨rfl, hB3⟩; have HB3 := Lib.hid (HB2.out.trans (hB3.mono HB2.out.size)); clear hB3)
        | (go_at_call 17; refine (hk _ (parts_below HL.out HB3.out)).mono ?_; rintro e w4 ⟨⟨v4, rfl, hM4⟩, hB4⟩; obtain ⟨a4, c4, rfl, hI4⟩ := ints_of hM4; rw [List.length_nil]; have HB4 := Lib.hid (HB3.out.trans (hB4.mono HB3.out.size)); clear hM4 hB4)
        | (go_at_call 12; refine (hw _ (parts_below HL.out HB4.out)).mono ?_; rintro e w5 ⟨rfl, rfl⟩)
        | (go_at_call 10; refine (fixed_any _ (tab_below HT.out HB4.out) (errs_below HE.out HB4.out)).mono ?_; rintro e w6 ⟨rfl, hB6⟩; have HB6 := Lib.hid (HB4.out.trans (hB6.mono HB4.out.size)); clear hB6))
      go_ret
      exact ⟨rfl, HB6.out⟩
end Go.Proofs.YtoffjpgobhcipaaGreatDoor.Trm
