/-
  Layer 11: the law's sum and fixed (texts Jn Jo).
-/
import Derived.Test.YtoffjpgobhcipaaDoorIj
import Derived.Test.YtoffjpgobhcipaaDoorHb
import Derived.Test.YtoffjpgobhcipaaDoorKb
import Derived.Test.YtoffjpgobhcipaaDoorKd
import Derived.Test.YtoffjpgobhcipaaDoorIz
import Derived.Test.YtoffjpgobhcipaaDoorKe
import Derived.Test.YtoffjpgobhcipaaDoorIo
import Derived.Test.YtoffjpgobhcipaaDoorIl
namespace Go.Proofs.YtoffjpgobhcipaaDoor.Trm
open Go.ChangeShapes Go.WideShapes Go.ChangeAt Go.RowKit

def sumL : List Pt := [⟨37, 2, ⟨#[43]⟩⟩, ⟨26, 0, ⟨#[97]⟩⟩, ⟨26, 0, ⟨#[98]⟩⟩]
def oneL : List Pt := [⟨27, 0, ⟨#[49]⟩⟩]
def sumT : List UInt8 := [40, 51, 55, 32, 34, 43, 34, 32, 40, 50, 54, 32, 34, 97, 34, 41, 32, 40, 50, 54, 32, 34, 98, 34, 41, 41]
theorem part_plus : partTx ⟨37, 2, ⟨#[43]⟩⟩ = [40, 51, 55, 32, 34, 43, 34] := by rfl
theorem part_a : partTx ⟨26, 0, ⟨#[97]⟩⟩ = [40, 50, 54, 32, 34, 97, 34] := by rfl
theorem part_b : partTx ⟨26, 0, ⟨#[98]⟩⟩ = [40, 50, 54, 32, 34, 98, 34] := by rfl
theorem sum_shows : showT sumL sumT := by
  have h1 : RowTx sumL 2 1 (32 :: (partTx ⟨26, 0, ⟨#[98]⟩⟩ ++ ([] ++ (41 :: [])))) 3 := RowTx.succ (p := ⟨26, 0, ⟨#[98]⟩⟩) rfl (by decide) (RowTx.zero 3) (RowTx.zero 3)
  have h2 : RowTx sumL 1 2 (32 :: (partTx ⟨26, 0, ⟨#[97]⟩⟩ ++ ([] ++ (41 :: (32 :: (partTx ⟨26, 0, ⟨#[98]⟩⟩ ++ ([] ++ (41 :: [])))))))) 3 := RowTx.succ (p := ⟨26, 0, ⟨#[97]⟩⟩) rfl (by decide) (RowTx.zero 2) h1
  have h3 : RowTx sumL 0 1 (32 :: (partTx ⟨37, 2, ⟨#[43]⟩⟩ ++ ((32 :: (partTx ⟨26, 0, ⟨#[97]⟩⟩ ++ ([] ++ (41 :: (32 :: (partTx ⟨26, 0, ⟨#[98]⟩⟩ ++ ([] ++ (41 :: [])))))))) ++ (41 :: [])))) 3 := RowTx.succ (p := ⟨37, 2, ⟨#[43]⟩⟩) rfl (by decide) h2 (RowTx.zero 3)
  rw [part_plus, part_a, part_b] at h3
  exact h3
theorem sum_reads : readP sumT = some sumL := by
  have h := tree_show (l := sumL) (by decide) sum_shows []
  rw [List.append_nil] at h
  unfold readP
  rw [h]
  rfl
theorem sum_well : wellB (kidsP sumL) = true := by decide
theorem one_trees : treesZ (kidsP oneL) = 1 := trees_is (n := 1) (well_goes.1 (by decide))
theorem sum_swap : swapP sumL oneL 1 1 = ([⟨37, 2, ⟨#[43]⟩⟩, ⟨27, 0, ⟨#[49]⟩⟩, ⟨26, 0, ⟨#[98]⟩⟩], 0) := by
  unfold swapP
  rw [sum_well, one_trees]
  rfl
theorem sum_checks : checkP sumL = 0 := by decide +kernel
end Go.Proofs.YtoffjpgobhcipaaDoor.Trm

namespace Go.Proofs.YtoffjpgobhcipaaDoor.Trm
open Go.ChangeShapes Go.WideShapes Go.ChangeAt Go.RowKit

set_option maxHeartbeats 2000000 in
theorem sum_any (w : World) : Calls Tryd.prog 13 #[] w fun e w' => (e = .returned (.slice (some ⟨w.heap.size, 0, none⟩) 3 3) ∧ MineP w' w.heap.size (.slice (some ⟨w.heap.size, 0, none⟩) 3 3) sumL) ∧ Below w.heap.size w w' := by
  go_enter Tryd.func13, Tryd.ntmps13
  go_wp2
  go_ret
  refine ⟨⟨rfl, rfl, .inr ⟨w.heap.size, 3, _, rfl, Nat.le_refl _, heap_alloc_new w _, by decide, by decide, rfl, rfl⟩⟩, (Below.refl _ w).alloc (Nat.le_refl _) _⟩
theorem parts_of {w : World} {B : Nat} {a : Option Addr} {n cap : Nat} {l : List Pt} (h : MineP w B (.slice a n cap) l) : Parts w a n l := by
  obtain ⟨a', c', e, hP, _, _⟩ := mineP_parts h
  simp only [Value.slice.injEq] at e
  obtain ⟨rfl, rfl, rfl⟩ := e
  exact hP
theorem show_sum (w : World) (a : Option Addr) (cap : Nat) (hl : Parts w a 3 sumL) (hTab : Tab w) :
    Calls Tryd.prog 6 #[.slice a 3 cap] w fun e w' => e = .returned (.tuple #[.string ⟨#[40, 51, 55, 32, 34, 43, 34, 32, 40, 50, 54, 32, 34, 97, 34, 41, 32, 40, 50, 54, 32, 34, 98, 34, 41, 41]⟩, .int .i64 0]) ∧ Below w.heap.size w w' := by
  refine (show_yes w a 3 cap sumL hl (by decide) (by unfold WordsFit; decide) (by unfold KindsFit; decide) hTab sumT sum_shows).mono ?_
  rintro e w' ⟨⟨X, c, rfl, _, h⟩, hB⟩
  obtain ⟨rfl, rfl⟩ := (h sumT sum_shows).1 (by decide)
  exact ⟨rfl, hB⟩
theorem read_sum (w : World) (hE : Errs w) :
    Calls Tryd.prog 7 #[.string ⟨#[40, 51, 55, 32, 34, 43, 34, 32, 40, 50, 54, 32, 34, 97, 34, 41, 32, 40, 50, 54, 32, 34, 98, 34, 41, 41]⟩] w fun e w' => (∃ a cap, e = .returned (.tuple #[.slice a 3 cap, .int .i64 0]) ∧ MineP w' w.heap.size (.slice a 3 cap) sumL) ∧ Below w.heap.size w w' := by
  refine (read_any _ (by decide) w hE).mono ?_
  rintro e w' ⟨⟨v, c, l, rfl, hM, _, h⟩, hB⟩
  obtain ⟨rfl, rfl⟩ := (h (by decide)).2 sumL sum_reads
  obtain ⟨a, cap, rfl, _⟩ := mineP_parts hM
  exact ⟨⟨a, cap, rfl, hM⟩, hB⟩
theorem swap_sum (w : World) (a b : Option Addr) (hl : Parts w a 3 sumL) (hb : Parts w b 1 oneL) (cb : Nat) :
    Calls Tryd.prog 11 #[.slice a 3 3, .int .i64 1, .int .i64 1, .slice b 1 cb] w fun e w' => (∃ g cap, e = .returned (.tuple #[.slice (some ⟨g, 0, none⟩) 3 cap, .int .i64 0]) ∧ w'.cell? ⟨g, 5, none⟩ = some (.string ⟨#[49]⟩) ∧ 3 ≤ cap) ∧ Below w.heap.size w w' := by
  refine (swap_any w a 3 3 sumL hl (by decide) (by decide) b 1 cb oneL hb (by decide) 1 1 (by decide)).mono ?_
  rintro e w' ⟨⟨v, rfl, hM⟩, hB⟩
  rw [sum_swap] at hM ⊢
  obtain ⟨g, cap, cur, rfl, _, _, _, hc, _, hcs, _⟩ := mineP_some hM (by simp)
  exact ⟨⟨g, cap, rfl, hcs 5 _ rfl, hc⟩, hB⟩
theorem same_sum (w : World) (a b : Option Addr) (ca cb : Nat) (hl : Parts w a 3 sumL) (hq : Parts w b 3 sumL) :
    Calls Tryd.prog 9 #[.slice a 3 ca, .slice b 3 cb] w fun e w' => e = .returned (.bool true) ∧ Below w.heap.size w w' := by
  refine (rsame_any w a b 3 3 ca cb sumL sumL hl hq (by decide)).mono ?_
  rintro e w' ⟨⟨r, rfl, h⟩, hB⟩
  exact ⟨by rw [h.2 rfl], hB⟩
theorem check_sum (w : World) (a : Option Addr) (cap : Nat) (hl : Parts w a 3 sumL) :
    Calls Tryd.prog 14 #[.slice a 3 cap] w fun e w' => e = .returned (.int .i64 0) ∧ Below w.heap.size w w' := by
  refine (check_any w a 3 cap sumL hl (by decide) (by unfold WordsFit; decide)).mono ?_
  rintro e w' ⟨rfl, hB⟩
  rw [sum_checks]
  exact ⟨rfl, hB⟩
set_option maxRecDepth 100000 in
set_option maxHeartbeats 8000000 in
theorem fixed_any (w : World) (hTab : Tab w) (hE : Errs w) : Calls Tryd.prog 5 #[] w fun e w' => e = .returned (.bool true) ∧ Below w.heap.size w w' := by
  have HT := Lib.hid hTab
  have HE := Lib.hid hE
  clear hTab hE
  go_enter Tryd.func5, Tryd.ntmps5
  go_wp2_with (first
    | (go_at_call 13; refine (sum_any _).mono ?_; rintro e w1 ⟨⟨rfl, hM1⟩, hB1⟩; have HB1 := Lib.hid hB1; have hP1 := parts_of hM1; clear hM1 hB1)
    | (go_at_call 6; refine (show_sum _ _ _ hP1 (tab_below HT.out HB1.out)).mono ?_; rintro e w2 ⟨rfl, hB2⟩; have HB2 := Lib.hid (HB1.out.trans (hB2.mono HB1.out.size)); clear hB2)
    | (go_at_call 7; refine (read_sum _ (errs_below HE.out HB2.out)).mono ?_; rintro e w3 ⟨⟨a3, c3, rfl, hM3⟩, hB3⟩; have HB3 := Lib.hid (HB2.out.trans (hB3.mono HB2.out.size)); have hP3 := parts_of hM3; clear hM3 hB3 hP1))
  have hA : Below w1.heap.size w1 (w1.alloc (.cells #[.int .u8 27, .int .i64 0, .string ⟨#[49]⟩] 33)) := (Below.refl _ w1).alloc (Nat.le_refl _) _
  have hO5 : Parts (w1.alloc (.cells #[.int .u8 27, .int .i64 0, .string ⟨#[49]⟩] 33)) (some ⟨w1.heap.size, 0, none⟩) 1 oneL := parts_of (mineP_one (p := ⟨27, 0, ⟨#[49]⟩⟩) (Nat.le_refl _))
  have h35 := HB1.out.trans (hA.mono HB1.out.size)
  have HB5 := Lib.hid (HB3.out.trans (h35.mono HB3.out.size))
  refine (swap_sum _ _ _ (parts_below hP1 hA) hO5 1).mono ?_
  rintro e w6 ⟨⟨g6, c6, rfl, k6, hc6⟩, hB6⟩
  have hP36 := parts_below hP3 (h35.trans (hB6.mono h35.size))
  have HB6 := Lib.hid (HB5.out.trans (hB6.mono HB5.out.size))
  have hg6 : g6 < w6.heap.size := cell_lt k6
  clear hA hO5 h35 hP1 hP3 hB6
  go_wp2_with (first
    | (go_at_call 13; refine (sum_any _).mono ?_; rintro e w7 ⟨⟨rfl, hM7⟩, hB7⟩; have HB7 := Lib.hid hB7; have hP7 := parts_of hM7; clear hM7 hB7)
    | (go_at_call 9; refine (same_sum _ _ _ _ _ (parts_below hP36 HB7.out) hP7).mono ?_; rintro e w8 ⟨rfl, hB8⟩; have HB8 := Lib.hid (HB7.out.trans (hB8.mono HB7.out.size)); have k8 := (HB8.out.cell (p := ⟨g6, 5, none⟩) hg6).trans k6; clear hB8)
    | (go_at_call 14; refine (check_sum _ _ _ hP7).mono ?_; rintro e w9 ⟨rfl, hB9⟩; have HB9 := Lib.hid (HB8.out.trans ((HB7.out.trans (hB9.mono HB7.out.size)).mono HB8.out.size))))
  go_ret
  exact ⟨rfl, HB6.out.trans (HB9.out.mono HB6.out.size)⟩
end Go.Proofs.YtoffjpgobhcipaaDoor.Trm
