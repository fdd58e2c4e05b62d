/-
  Layer 11: contract of the document's Show.
-/
import Derived.Test.YtoffjpgobhcipaaGreatDoorIt
import Derived.Test.YtoffjpgobhcipaaGreatDoorKa
namespace Go.Proofs.YtoffjpgobhcipaaGreatDoor.Trm
open Go.ChangeShapes Go.WideShapes Go.ChangeAt Go.RowKit

theorem show_tree {l : List Pt} {T : List UInt8} (h : showT l T) : ∃ p s, l[0]? = some p ∧ 0 ≤ p.kids ∧ RowTx l 1 p.kids.toNat s l.length ∧ T = treeTx p s := by
  obtain ⟨p, sa, ea, sb, hp, h0, g1, g2, hs⟩ := row_snoc h (K := 0) rfl
  cases g2
  rw [List.append_nil] at hs
  injection hs with _ hs
  exact ⟨p, sa, hp, h0, g1, hs⟩
theorem rshow_no (w : World) (a : Option Addr) (n cap : Nat) (l : List Pt) (hl : Parts w a n l) (hn : n ≤ 2000) (hw : wellB (kidsP l) = false) :
    Calls Tryz.prog 23 #[.slice a n cap] w fun e w' => ShowIs l e ∧ Below w.heap.size w w' := by
  have h := rwell_any w a n cap l hl hn
  rw [hw] at h
  have HR : Hid (ShowIs l (.returned (.tuple #[.string ⟨#[]⟩, .int .i64 8]))) := Lib.hid ⟨[], 8, rfl, fun _ => ⟨rfl, rfl⟩, fun T hT => by rw [show_well hT] at hw; cases hw⟩
  clear hl hw
  go_enter Tryz.func23, Tryz.ntmps23
  go_wp2_with (go_at_call 12; refine h.mono ?_; rintro e w1 ⟨rfl, rfl⟩)
  go_ret2
  exact ⟨HR.out, Below.refl _ _⟩
set_option maxHeartbeats 4000000 in
theorem rshow_yes (w : World) (a : Option Addr) (n cap : Nat) (l : List Pt) (hl : Parts w a n l) (hn : n ≤ 2000) (hK : KindsFit l) (hF : KidsFit l) (hW : ∀ x ∈ l, x.word.size ≤ 1048576) (T : List UInt8) (hT : showT l T) (hTl : T.length ≤ 1099511627776) :
    Calls Tryz.prog 23 #[.slice a n cap] w fun e w' => ShowIs l e ∧ Below w.heap.size w w' := by
  have h := rwell_any w a n cap l hl hn
  have hwl := show_well hT
  rw [hwl] at h
  obtain ⟨p, s, hp, h0, g, hTt⟩ := show_tree hT
  have hc := rtree_any l a n cap hn hK hF hW l.length 0 l.length p s (by omega) hp h0 g (by rw [← hTt]; exact hTl) w hl
  rw [← hTt] at hc
  obtain ⟨X, hX⟩ : ∃ X : ByteArray, X = ⟨T.toArray⟩ := ⟨_, rfl⟩
  have hXs : X.size = T.length := by rw [hX]; rfl
  rw [← hX] at hc
  by_cases hle : T.length ≤ 1048576
  · have HR : Hid (ShowIs l (.returned (.tuple #[.string X, .int .i64 0]))) := Lib.hid ⟨T, 0, by rw [hX], (fun e => by rw [hwl] at e; cases e), fun T' hT' => by rw [← show_fun hT hT']; exact ⟨fun _ => ⟨rfl, rfl⟩, fun h' => by omega⟩⟩
    have d1 : decide ((1048576 : Int) < T.length) = false := decide_eq_false (by omega)
    clear hl hwl hTt hX hT hp h0 g hle hTl
    go_enter Tryz.func23, Tryz.ntmps23
    go_wp2_with (first | (go_at_call 12; refine h.mono ?_; rintro e w1 ⟨rfl, rfl⟩) | (go_at_call 44; refine hc.mono ?_; rintro e w2 ⟨rfl, hB⟩))
    go_ret2
    exact ⟨HR.out, hB⟩
  · have HR : Hid (ShowIs l (.returned (.tuple #[.string ⟨#[]⟩, .int .i64 2]))) := Lib.hid ⟨[], 2, rfl, (fun e => by rw [hwl] at e; cases e), fun T' hT' => by rw [← show_fun hT hT']; exact ⟨fun h' => by omega, fun _ => ⟨rfl, rfl⟩⟩⟩
    have d1 : decide ((1048576 : Int) < T.length) = true := decide_eq_true (by omega)
    clear hl hwl hTt hX hT hp h0 g hle hTl
    go_enter Tryz.func23, Tryz.ntmps23
    go_wp2_with (first | (go_at_call 12; refine h.mono ?_; rintro e w1 ⟨rfl, rfl⟩) | (go_at_call 44; refine hc.mono ?_; rintro e w2 ⟨rfl, hB⟩))
    go_ret2
    exact ⟨HR.out, hB⟩
end Go.Proofs.YtoffjpgobhcipaaGreatDoor.Trm
