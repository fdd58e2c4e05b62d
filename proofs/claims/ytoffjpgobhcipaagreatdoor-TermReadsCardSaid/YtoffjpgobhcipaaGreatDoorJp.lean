/-
  Layer 11: the law TermReads.
-/
import Derived.Test.YtoffjpgobhcipaaGreatDoorKf
import Derived.Test.YtoffjpgobhcipaaGreatDoorJe
namespace Go.Proofs.YtoffjpgobhcipaaGreatDoor.Trm
open Go.ChangeShapes Go.WideShapes Go.ChangeAt Go.RowKit

/-- what a text reads as, or why not -/
noncomputable def readAns (s : List UInt8) : List Pt × Int := if 1048576 < s.length then ([], 2) else (match readP s with | none => ([], 9) | some L => (L, 0))
theorem readIs_ans {B : Nat} {s : List UInt8} {e : Ending} {w : World} (h : ReadIs B s e w) : ∃ a cap, e = .returned (.tuple #[.slice a (readAns s).1.length cap, .int .i64 (readAns s).2]) ∧ MineP w B (.slice a (readAns s).1.length cap) (readAns s).1 := by
  obtain ⟨v, c, l, rfl, hM, h1, h2⟩ := h
  have hx : l = (readAns s).1 ∧ c = (readAns s).2 := by
    unfold readAns
    by_cases hl : 1048576 < s.length
    · rw [if_pos hl]
      exact h1 hl
    · rw [if_neg hl]
      obtain ⟨h3, h4⟩ := h2 (by omega)
      cases hr : readP s with
      | none => exact h3 hr
      | some L => exact h4 L hr
  obtain ⟨rfl, rfl⟩ := hx
  obtain ⟨a, cap, rfl, _⟩ := mineP_parts hM
  exact ⟨a, cap, rfl, hM⟩
theorem same_any (w : World) (a b : Option Addr) (n ca cb : Nat) (l : List Pt) (hl : Parts w a n l) (hq : Parts w b n l) (hn : n ≤ 4398046511104) :
    Calls Tryz.prog 26 #[.slice a n ca, .slice b n cb] w fun e w' => e = .returned (.bool true) ∧ Below w.heap.size w w' := by
  refine (rsame_any w a b n n ca cb l l hl hq hn).mono ?_
  rintro e w' ⟨⟨r, rfl, h⟩, hB⟩
  exact ⟨by rw [h.2 rfl], hB⟩
theorem readAns_len (s : List UInt8) : (readAns s).1.length ≤ 4398046511104 := by
  unfold readAns
  by_cases hl : 1048576 < s.length
  · rw [if_pos hl]; simp
  · rw [if_neg hl]
    cases hr : readP s with
    | none => simp
    | some L =>
      unfold readP at hr
      obtain ⟨y, hy, hr⟩ := Option.bind_eq_some_iff.1 hr
      split at hr
      · injection hr with hr
        subst hr
        have := (tree_nodes (L := y.1) (r := y.2) hy).1
        simp only
        omega
      · cases hr
set_option maxRecDepth 100000 in
set_option maxHeartbeats 4000000 in
theorem lawreads_any (s : ByteArray) (hs : s.size ≤ 140737488351232) (w : World) (hTab : Tab w) (hE : Errs w) : Calls Tryz.prog 7 #[.string s] w fun e w' => e = .returned (.bool true) ∧ Below w.heap.size w w' := by
  have HT := Lib.hid hTab
  have HE := Lib.hid hE
  clear hTab hE
  by_cases hmid : 4000 < s.size ∧ s.size ≤ 1048576
  · have d1 : (4000 : Int) < s.size := by omega
    have d2 : (s.size : Int) ≤ 1048576 := by omega
    have hf := fixed_any w HT.out HE.out
    go_enter Tryz.func7, Tryz.ntmps7
    go_wp2_with (go_at_call 10; refine hf.mono ?_; rintro e w2 ⟨rfl, hB2⟩)
    go_ret
    exact ⟨rfl, hB2⟩
  have hrd : ∀ w, Errs w → Calls Tryz.prog 24 #[.string s] w fun e w' => ReadIs w.heap.size s.data.toList e w' ∧ Below w.heap.size w w' := fun w hE => by
    by_cases hl : 1048576 < s.size
    · exact read_long s hs hl w
    · exact read_any s (by omega) w hE
  have hrr := fun w => rRead_any s hs w
  have hla := readAns_len s.data.toList
  obtain ⟨X, hX⟩ : ∃ X, X = readAns s.data.toList := ⟨_, rfl⟩
  have hrd2 : Hid (∀ w, Errs w → Calls Tryz.prog 24 #[.string s] w fun e w' => (∃ a cap, e = .returned (.tuple #[.slice a X.1.length cap, .int .i64 X.2]) ∧ MineP w' w.heap.size (.slice a X.1.length cap) X.1) ∧ Below w.heap.size w w') := Lib.hid (fun w hE => (hrd w hE).mono (fun e w' ⟨h1, h2⟩ => ⟨by rw [hX]; exact readIs_ans h1, h2⟩))
  have hrr2 : Hid (∀ w, Calls Tryz.prog 25 #[.string s] w fun e w' => (∃ a cap, e = .returned (.tuple #[.slice a X.1.length cap, .int .i64 X.2]) ∧ MineP w' w.heap.size (.slice a X.1.length cap) X.1) ∧ Below w.heap.size w w') := Lib.hid (fun w => (hrr w).mono (fun e w' ⟨h1, h2⟩ => ⟨by rw [hX]; exact readIs_ans h1, h2⟩))
  rw [← hX] at hla
  obtain ⟨X1, X2⟩ := X
  dsimp only at hrd2 hrr2 hla
  have hcase : ¬ (4000 : Int) < s.size ∨ ((4000 : Int) < s.size ∧ ¬ (s.size : Int) ≤ 1048576) := by omega
  clear hX hrd hrr hmid
  rcases hcase with d1 | ⟨d1, d2⟩
  all_goals
    go_enter Tryz.func7, Tryz.ntmps7
    go_wp2_with (first
      | (go_at_call 24; refine (hrd2.out _ HE.out).mono ?_; rintro e w2 ⟨⟨a2, c2, rfl, hM2⟩, hB2⟩; have HB2 := Lib.hid hB2; have hP2 := parts_of hM2; clear hM2 hB2)
      | (go_at_call 25; refine (hrr2.out _).mono ?_; rintro e w3 ⟨⟨a3, c3, rfl, hM3⟩, hB3⟩; have HB3 := Lib.hid (HB2.out.trans (hB3.mono HB2.out.size)); have hP3 := parts_of hM3; have hP23 := parts_below hP2 hB3; clear hM3 hB3)
      | (go_at_call 10; refine (fixed_any _ (tab_below HT.out HB3.out) (errs_below HE.out HB3.out)).mono ?_; rintro e w4 ⟨rfl, hB4⟩; have HB4 := Lib.hid (HB3.out.trans (hB4.mono HB3.out.size)); have hP4 := parts_below hP3 hB4; have hP24 := parts_below hP23 hB4; clear hB4)
      | (go_at_call 26; refine (same_any _ _ _ _ _ _ _ hP24 hP4 hla).mono ?_; rintro e w5 ⟨rfl, hB5⟩; have HB5 := Lib.hid (HB4.out.trans (hB5.mono HB4.out.size)); clear hB5))
    go_ret
    exact ⟨rfl, HB5.out⟩
end Go.Proofs.YtoffjpgobhcipaaGreatDoor.Trm
