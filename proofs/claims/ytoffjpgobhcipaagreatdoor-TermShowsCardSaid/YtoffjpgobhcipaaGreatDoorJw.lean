/-
  Layer 11: the law TermShows.
-/
import Derived.Test.YtoffjpgobhcipaaGreatDoorKf
import Derived.Test.YtoffjpgobhcipaaGreatDoorIu
import Derived.Test.YtoffjpgobhcipaaGreatDoorIv
namespace Go.Proofs.YtoffjpgobhcipaaGreatDoor.Trm
open Go.ChangeShapes Go.WideShapes Go.ChangeAt Go.RowKit

set_option maxRecDepth 100000 in
set_option maxHeartbeats 4000000 in
theorem lawshows_any (w : World) (a : Option Addr) (n cap : Nat) (l : List Pt) (hl : Parts w a n l) (hn : n ≤ 4398046511104) (hW : WordsFit l) (hK : KindsFit l) (hF : KidsFit l) (hTab : Tab w) (hE : Errs w) :
    Calls Tryz.prog 6 #[.slice a n cap] w fun e w' => e = .returned (.bool true) ∧ Below w.heap.size w w' := by
  have HT := Lib.hid hTab
  have HE := Lib.hid hE
  have HL := Lib.hid hl
  have hg := great_any w a n cap l hl hn hW
  have hln := hl.1
  have HS : Hid (n + totW l ≤ 2000 → ∃ (X : List UInt8) (c : Int), (∀ w, Parts w a n l → Tab w → Calls Tryz.prog 22 #[.slice a n cap] w fun e w' => e = .returned (.tuple #[.string ⟨X.toArray⟩, .int .i64 c]) ∧ Below w.heap.size w w') ∧ (∀ w, Parts w a n l → Calls Tryz.prog 23 #[.slice a n cap] w fun e w' => e = .returned (.tuple #[.string ⟨X.toArray⟩, .int .i64 c]) ∧ Below w.heap.size w w')) := Lib.hid (fun hs => by
    cases hq : wellB (kidsP l) with
    | false =>
      refine ⟨[], 8, fun w h1 _ => ?_, fun w h1 => ?_⟩
      · refine (show_no w a n cap l h1 hn hq).mono ?_
        rintro e w' ⟨⟨X, c, rfl, h, _⟩, hB⟩
        obtain ⟨rfl, rfl⟩ := h hq
        exact ⟨rfl, hB⟩
      · refine (rshow_no w a n cap l h1 (by omega) hq).mono ?_
        rintro e w' ⟨⟨X, c, rfl, h, _⟩, hB⟩
        obtain ⟨rfl, rfl⟩ := h hq
        exact ⟨rfl, hB⟩
    | true =>
      obtain ⟨T, hT⟩ := show_ex hq
      have hTl := show_size hT
      rw [hln] at hTl
      refine ⟨T, 0, fun w h1 h2 => ?_, fun w h1 => ?_⟩
      · refine (show_yes w a n cap l h1 hn hW hK h2 T hT).mono ?_
        rintro e w' ⟨⟨X, c, rfl, _, h⟩, hB⟩
        obtain ⟨rfl, rfl⟩ := (h T hT).1 (by omega)
        exact ⟨rfl, hB⟩
      · refine (rshow_yes w a n cap l h1 (by omega) hK hF (fun x hx => by have := totW_mem hx; omega) T hT (by omega)).mono ?_
        rintro e w' ⟨⟨X, c, rfl, _, h⟩, hB⟩
        obtain ⟨rfl, rfl⟩ := (h T hT).1 (by omega)
        exact ⟨rfl, hB⟩)
  clear hTab hE hl
  go_enter Tryz.func6, Tryz.ntmps6
  go_upto_if 8 with (go_at_call 9; refine hg.mono ?_; rintro e w2 ⟨⟨r, rfl, hr⟩, rfl⟩)
  cases r with
  | true =>
    go_wp2_with (go_at_call 10; refine (fixed_any _ HT.out HE.out).mono ?_; rintro e w3 ⟨rfl, hB3⟩)
    go_ret
    exact ⟨rfl, hB3⟩
  | false =>
    obtain ⟨X, c, h1, h2⟩ := HS.out (hr rfl)
    obtain ⟨S, hS⟩ : ∃ S : ByteArray, S = ⟨X.toArray⟩ := ⟨_, rfl⟩
    rw [← hS] at h1 h2
    have hss : (S.toList == S.toList) = true := by simp
    clear hr hS
    go_wp2_with (first
      | (go_at_call 22; refine (h1 _ HL.out HT.out).mono ?_; rintro e w3 ⟨rfl, hB3⟩; have HB3 := Lib.hid hB3; clear hB3)
      | (go_at_call 23; refine (h2 _ (parts_below HL.out HB3.out)).mono ?_; rintro e w4 ⟨rfl, hB4⟩; have HB4 := Lib.hid (HB3.out.trans (hB4.mono HB3.out.size)); clear hB4)
      | (go_at_call 10; refine (fixed_any _ (tab_below HT.out HB4.out) (errs_below HE.out HB4.out)).mono ?_; rintro e w5 ⟨rfl, hB5⟩; have HB5 := Lib.hid (HB4.out.trans (hB5.mono HB4.out.size)); clear hB5))
    go_ret
    exact ⟨by simp, HB5.out⟩
end Go.Proofs.YtoffjpgobhcipaaGreatDoor.Trm
