/-
  Layer 11: the law TermSwaps.
-/
import Derived.Test.YtoffjpgobhcipaaGreatDoorKf
import Derived.Test.YtoffjpgobhcipaaGreatDoorJm
namespace Go.Proofs.YtoffjpgobhcipaaGreatDoor.Trm
open Go.ChangeShapes Go.WideShapes Go.ChangeAt Go.RowKit

theorem same_swap (w : World) (a b : Option Addr) (n ca cb : Nat) (l : List Pt) (hl : Parts w a n l) (hq : Parts w b n l) (hn : n ≤ 4398046511104) :
    Calls Tryz.prog 26 #[.slice a n ca, .slice b n cb] w fun e w' => e = .returned (.bool true) ∧ Below w.heap.size w w' := by
  refine (rsame_any w a b n n ca cb l l hl hq hn).mono ?_
  rintro e w' ⟨⟨r, rfl, h⟩, hB⟩
  exact ⟨by rw [h.2 rfl], hB⟩
theorem swapIs_ans {B : Nat} {X : List Pt × Int} {e : Ending} {w : World} (h : SwapIs B X e w) : ∃ a cap, e = .returned (.tuple #[.slice a X.1.length cap, .int .i64 X.2]) ∧ MineP w B (.slice a X.1.length cap) X.1 := by
  obtain ⟨v, rfl, hM⟩ := h
  obtain ⟨a, cap, rfl, _⟩ := mineP_parts hM
  exact ⟨a, cap, rfl, hM⟩
theorem swapP_len (l b : List Pt) (i k : Int) (hl : l.length ≤ 2000) (hb : b.length ≤ 2000) : (swapP l b i k).1.length ≤ 4398046511104 := by
  unfold swapP
  split
  · simp
  · split
    · simp
    · split
      · simp only; omega
      · split
        · simp
        · unfold swapL
          simp only [List.length_append, List.length_modify, List.length_take, List.length_drop]
          omega
set_option maxRecDepth 100000 in
set_option maxHeartbeats 4000000 in
theorem lawswaps_any (w : World) (a : Option Addr) (n cap : Nat) (l : List Pt) (hl : Parts w a n l) (hnc : n ≤ cap) (hn : n ≤ 4398046511104) (b : Option Addr) (m cb : Nat) (hbc : b = none → cb = 0) (l2 : List Pt) (hb : Parts w b m l2) (hm : m ≤ 4398046511104) (I K : Int) (hK : K ≤ 9223372036854775807) (hTab : Tab w) (hE : Errs w) :
    Calls Tryz.prog 8 #[.slice a n cap, .agg #[.int .i64 I, .int .i64 K], .slice b m cb] w fun e w' => e = .returned (.bool true) ∧ Below w.heap.size w w' := by
  have hA : Below w.heap.size w (w.alloc (.cells #[.int .i64 I, .int .i64 K] 42)) := (Below.refl _ w).alloc (Nat.le_refl _) _
  have HT := Lib.hid (tab_below hTab hA)
  have HE := Lib.hid (errs_below hE hA)
  have HL := Lib.hid (parts_below hl hA)
  have HBL := Lib.hid (parts_below hb hA)
  have HA := Lib.hid hA
  have hln := hl.1
  have hbn := hb.1
  clear hTab hE hl hb hA
  by_cases hbig : 300 < n ∨ 300 < m
  · have hcase : (300 : Int) < n ∨ (¬ (300 : Int) < n ∧ (300 : Int) < m) := by omega
    clear hbig
    rcases hcase with d1 | ⟨d1, d2⟩
    all_goals
      go_enter Tryz.func8, Tryz.ntmps8
      go_wp2_with (go_at_call 10; refine (fixed_any _ HT.out HE.out).mono ?_; rintro e w2 ⟨rfl, hB2⟩)
      go_ret
      exact ⟨rfl, HA.out.trans (hB2.mono HA.out.size)⟩
  have d1 : ¬ (300 : Int) < n := by omega
  have d2 : ¬ (300 : Int) < m := by omega
  have hsw : Hid (∀ w', Parts w' a n l → Parts w' b m l2 → Calls Tryz.prog 27 #[.slice a n cap, .int .i64 I, .int .i64 K, .slice b m cb] w' fun e w'' => (∃ a cap, e = .returned (.tuple #[.slice a (swapP l l2 I K).1.length cap, .int .i64 (swapP l l2 I K).2]) ∧ MineP w'' w'.heap.size (.slice a (swapP l l2 I K).1.length cap) (swapP l l2 I K).1) ∧ Below w'.heap.size w' w'') := Lib.hid (fun w' h1 h2 => (swap_any w' a n cap l h1 (by omega) hnc b m cb l2 h2 (by omega) I K hK).mono (fun e w'' ⟨h3, h4⟩ => ⟨swapIs_ans h3, h4⟩))
  have hrs : Hid (∀ w', Parts w' a n l → Parts w' b m l2 → Calls Tryz.prog 28 #[.slice a n cap, .int .i64 I, .int .i64 K, .slice b m cb] w' fun e w'' => (∃ a cap, e = .returned (.tuple #[.slice a (swapP l l2 I K).1.length cap, .int .i64 (swapP l l2 I K).2]) ∧ MineP w'' w'.heap.size (.slice a (swapP l l2 I K).1.length cap) (swapP l l2 I K).1) ∧ Below w'.heap.size w' w'') := Lib.hid (fun w' h1 h2 => (rswap_any w' a n cap l h1 (by omega) hnc b m cb hbc l2 h2 (by omega) I K hK).mono (fun e w'' ⟨h3, h4⟩ => ⟨swapIs_ans h3, h4⟩))
  have hXl := swapP_len l l2 I K (by omega) (by omega)
  generalize swapP l l2 I K = X at hsw hrs hXl
  obtain ⟨X1, X2⟩ := X
  dsimp only at hsw hrs hXl
  have HZ : Hid ((w.alloc (.cells #[.int .i64 I, .int .i64 K] 42)).heap[w.heap.size]? = some (.cells #[.int .i64 I, .int .i64 K] 42 (0, 0))) := Lib.hid (heap_alloc_new w _)
  have p0 : (w.alloc (.cells #[.int .i64 I, .int .i64 K] 42)).cell? ⟨w.heap.size, 0, none⟩ = some (.int .i64 I) := (cell_of_row _ _ 0 _ 42 (0, 0) HZ.out).trans rfl
  have p1 : (w.alloc (.cells #[.int .i64 I, .int .i64 K] 42)).cell? ⟨w.heap.size, 1, none⟩ = some (.int .i64 K) := (cell_of_row _ _ 1 _ 42 (0, 0) HZ.out).trans rfl
  have hz1 : (w.alloc (.cells #[.int .i64 I, .int .i64 K] 42)).heap.size = w.heap.size + 1 := by simp
  clear hbig
  go_enter Tryz.func8, Tryz.ntmps8
  go_wp2_with (first
    | (go_at_call 27; refine (hsw.out _ HL.out HBL.out).mono ?_; rintro e w2 ⟨⟨a2, c2, rfl, hM2⟩, hB2⟩; have HB2 := Lib.hid hB2; have hP2 := parts_of hM2; have q0 := (hB2.cell (p := ⟨w.heap.size, 0, none⟩) (by show w.heap.size < _; omega)).trans p0; have q1 := (hB2.cell (p := ⟨w.heap.size, 1, none⟩) (by show w.heap.size < _; omega)).trans p1; clear hM2 hB2)
    | (go_at_call 28; refine (hrs.out _ (parts_below HL.out HB2.out) (parts_below HBL.out HB2.out)).mono ?_; rintro e w3 ⟨⟨a3, c3, rfl, hM3⟩, hB3⟩; have HB3 := Lib.hid (HB2.out.trans (hB3.mono HB2.out.size)); have hP3 := parts_of hM3; have hP23 := parts_below hP2 hB3; clear hM3 hB3)
    | (go_at_call 10; refine (fixed_any _ (tab_below HT.out HB3.out) (errs_below HE.out HB3.out)).mono ?_; rintro e w4 ⟨rfl, hB4⟩; have HB4 := Lib.hid (HB3.out.trans (hB4.mono HB3.out.size)); have hP4 := parts_below hP3 hB4; have hP24 := parts_below hP23 hB4; clear hB4)
    | (go_at_call 26; refine (same_swap _ _ _ _ _ _ _ hP24 hP4 hXl).mono ?_; rintro e w5 ⟨rfl, hB5⟩; have HB5 := Lib.hid (HB4.out.trans (hB5.mono HB4.out.size)); clear hB5))
  go_ret
  exact ⟨rfl, HA.out.trans (HB5.out.mono HA.out.size)⟩
end Go.Proofs.YtoffjpgobhcipaaGreatDoor.Trm
