/-
  Layer 10: contract of the stack's leave.
-/
import Derived.Test.YtdlpminekojahaaC
namespace Go.Proofs.Ytdlpminekojahaa
open Go.ChangeShapes Go.WideShapes Go.ChangeAt Go.RowKit

def leaveM : List Rm → List Rm
  | [] => []
  | r :: st => if r.left = 0 then leaveM st else r :: st
theorem stkM_pop {w : World} {base : Nat} {r : Rm} {st : List Rm} {g cap : Nat} (h : StkM w base (.slice (some ⟨g, 0, none⟩) (st.length + 1) cap) (r :: st)) : StkM w base (.slice (some ⟨g, 0, none⟩) st.length cap) st := by
  unfold StkM at h ⊢
  rw [List.reverse_cons, rmsV_app, List.length_cons] at h
  exact ownsRow_pop (by rw [rmsV_len, List.length_reverse]) h
theorem stkM_top {w : World} {base : Nat} {r : Rm} {st : List Rm} {v : Value} (h : StkM w base v (r :: st)) : ∃ g cap, v = .slice (some ⟨g, 0, none⟩) (st.length + 1) cap ∧ base ≤ g ∧ st.length + 1 ≤ cap ∧ ∀ k u, k < 7 → (rmV r)[k]? = some u → w.cell? ⟨g, st.length * 7 + k, none⟩ = some u := by
  obtain ⟨g, cap, rfl, hgb, _⟩ := World.ownsRow.form h (by simp)
  refine ⟨g, cap, rfl, hgb, (by
    rcases h.2 with ⟨h1, _⟩ | ⟨g', cap', cur, h1, _, _, h2, _⟩
    · cases h1
    · cases h1; exact h2), fun k u hk hu => ?_⟩
  unfold StkM at h
  rw [List.reverse_cons, List.length_cons] at h
  have c0 := rms_last st.reverse r k hk u hu
  rw [List.length_reverse] at c0
  exact (h.cellAt (st.length * 7 + k) (by omega)).trans c0
set_option maxRecDepth 100000 in
set_option maxHeartbeats 4000000 in
theorem leave_any (st : List Rm) (w : World) (b base D : Nat) (hD1 : D ≤ b) (h : BoxM w b base st) (hl : st.length ≤ 1099511627776) :
    Calls Try.prog 29 #[.pointer (some ⟨b, 0, none⟩)] w fun e w' => e = .returned (.tuple #[]) ∧ BoxM w' b base (leaveM st) ∧ Below D w w' ∧ w'.heap.size = w.heap.size := by
  have h0 := h
  obtain ⟨v, hb, hv, _⟩ := h
  obtain ⟨a, cap, rfl⟩ : ∃ a cap, v = .slice a st.length cap := by
    rcases hv.2 with ⟨h, h1⟩ | ⟨g, cap, cur, h, _⟩
    · exact ⟨none, 0, by rw [h, h1]⟩
    · exact ⟨_, cap, h⟩
  have cb := cell_of_one hb
  have H0 := Lib.hid h0
  clear hb hv h0
  obtain ⟨n, hn⟩ : ∃ n, n = st.length := ⟨_, rfl⟩
  rw [← hn] at cb hl
  have HN := Lib.hid hn
  clear hn
  go_enter Try.func29, Try.ntmps29
  go_wp2
  go_loopw [2] (fun t wr => ∃ (m : Nat) (st' : List Rm), m ≤ n ∧ t = .int .i64 m ∧ Hid (st'.length = m) ∧ Hid (leaveM st' = leaveM st) ∧ Hid (BoxM wr b base st') ∧ Hid (Below D w wr) ∧ Hid (wr.heap.size = w.heap.size)) (fun t _ => (intOf t).toNat)
  case atStart => exact ⟨n, st, Nat.le_refl _, rfl, Lib.hid HN.out.symm, Lib.hid rfl, H0, Lib.hid (Below.refl _ _), Lib.hid rfl⟩
  case round =>
    obtain ⟨m, st', hm, rfl, HL, HE, HX, HB, HS⟩ := hrel
    clear cb
    have hx := HX.out
    have hlen := HL.out
    cases st' with
    | nil =>
      obtain rfl : m = 0 := by rw [← hlen]; rfl
      clear hx hlen
      go_wp2
      go_end0
      exact ⟨rfl, by rw [← HE.out]; exact HX.out, HB.out, HS.out⟩
    | cons r s =>
      obtain ⟨v, hb, hv, hvn⟩ := hx
      obtain ⟨g, cap, rfl, _, hcap, hc⟩ := stkM_top hv
      have hgb : ¬ g = b := fun e => hvn (by rw [e]; rfl)
      have hv2 := stkM_pop hv
      have c5 := hc 5 _ (by omega) rfl
      obtain ⟨k, hk⟩ : ∃ k, k = s.length := ⟨_, rfl⟩
      rw [List.length_cons, ← hk] at hlen
      rw [← hk] at hb c5 hv2 hcap
      subst hlen
      have cb := cell_of_one hb
      have fb := free_of_one hb
      have HB1 := Lib.hid hb
      have HV2 := Lib.hid hv2
      have HK := Lib.hid hk
      have HG := Lib.hid hgb
      clear hb hv hv2 hc hk hvn hgb
      by_cases hz : r.left = 0
      · rw [hz] at c5
        have HE2 := HE.out
        rw [leaveM, if_pos hz] at HE2
        have HE3 := Lib.hid HE2
        clear HE2 hz
        go_wp2
        go_roundw
        case rel => 
          refine ⟨k, s, by omega, by go_num, Lib.hid HK.out.symm, HE3, Lib.hid ⟨_, one_setCell HB1.out, ?_, by simp [Value.ownBlock]; exact HG.out⟩, Lib.hid (HB.out.setCell (p := ⟨b, 0, none⟩) hD1 _), Lib.hid (by simp; exact HS.out)⟩
          exact ownsRow_setCell_other HV2.out (a := ⟨b, 0, none⟩) (by simp [Value.ownBlock]; exact HG.out) _
        case measure => simp [intOf]
      · have q1 : (r.left == 0) = false := by simpa using hz
        have HE2 := HE.out
        rw [leaveM, if_neg hz] at HE2
        have HE3 := Lib.hid HE2
        clear HE2 hz
        go_wp2
        go_end0
        exact ⟨rfl, by rw [← HE3.out]; exact HX.out, HB.out, HS.out⟩
end Go.Proofs.Ytdlpminekojahaa
