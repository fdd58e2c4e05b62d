/-
  Layer 10: the closure of tree.Own, and Own.
-/
import Derived.Test.YtdlpminekojahaaH
import Derived.Deep.LoopGhost
import Derived.Deep.CutRange
namespace Go.Proofs.Ytdlpminekojahaa
open Go.ChangeShapes Go.WideShapes Go.ChangeAt Go.RowKit

/-- what is left of kids, as places, from a token on -/
def lftK (l : List Nd) (t : Int) (ks : List Nat) : List Nat := ks.dropWhile fun k => decide ((l.getD k nd0).hi ≤ t)
theorem ivs_lft (l : List Nd) (t : Int) : ∀ ks, ivs l (lftK l t ks) = lft t (ivs l ks) := by
  intro ks
  induction ks with
  | nil => rfl
  | cons k ks ih =>
    unfold lftK lft ivs at *
    rw [List.map_cons]
    by_cases h : (l.getD k nd0).hi ≤ t
    · rw [List.dropWhile_cons_of_pos (by simpa using h), List.dropWhile_cons_of_pos (by simpa using h)]; exact ih
    · rw [List.dropWhile_cons_of_neg (by simpa using h), List.dropWhile_cons_of_neg (by simpa using h)]; rfl
def headK (l : List Nd) (t : Int) : List Nat → Bool
  | [] => false
  | k :: _ => decide ((l.getD k nd0).lo ≤ t)
theorem head_ivs (l : List Nd) (t : Int) (ks : List Nat) : headT t (ivs l ks) = headK l t ks := by cases ks <;> rfl
theorem lftK_cons {l : List Nd} {t : Int} {k : Nat} {ks : List Nat} : lftK l t (k :: ks) = if (l.getD k nd0).hi ≤ t then lftK l t ks else k :: ks := by
  unfold lftK
  by_cases h : (l.getD k nd0).hi ≤ t
  · rw [List.dropWhile_cons_of_pos (by simpa using h), if_pos h]
  · rw [List.dropWhile_cons_of_neg (by simpa using h), if_neg h]
/-- the box of what is left: a slice that reads as places -/
def BoxK (w : World) (b : Nat) (ks : List Nat) : Prop :=
  ∃ a cap, w.heap[b]? = some (.cells #[.slice a ks.length cap] 30 (0, 0)) ∧ ks.length ≤ cap ∧ ∀ (j k : Nat), ks[j]? = some k → ∃ g off, a = some ⟨g, off, none⟩ ∧ g < b ∧ w.cell? ⟨g, off + j, none⟩ = some (.int .i64 (k : Int))
set_option maxRecDepth 100000 in
set_option maxHeartbeats 4000000 in
theorem kid_any (t : Int) (l : List Nd) (ks : List Nat) (w : World) (b bn D : Nat) (hD : D ≤ b) (a : Option Addr) (n cap : Nat) (hne : b ≠ bn) (hb : BoxK w b ks) (hk : ∀ k ∈ ks, k < n) (hbn : w.heap[bn]? = some (.cells #[.slice a n cap] 22 (0, 0)))
    (hl : Nodes w a n l) (hg : ∀ g off, a = some ⟨g, off, none⟩ → g ≠ b) :
    Calls Try.prog 31 #[.int .i64 t, .pointer (some ⟨b, 0, none⟩), .pointer (some ⟨bn, 0, none⟩)] w fun e w' => e = .returned (.bool (headK l t (lftK l t ks))) ∧ BoxK w' b (lftK l t ks) ∧ Below D w w' ∧ (∀ q, q ≠ b → w'.heap[q]? = w.heap[q]?) ∧ w'.heap.size = w.heap.size := by
  have HB := Lib.hid hb
  have HK := Lib.hid hk
  have HL := Lib.hid hl
  have HG := Lib.hid hg
  have HN := Lib.hid hbn
  clear hb hk hl hg hbn
  go_enter Try.func31, Try.ntmps31
  go_wp2
  go_loopg [] ks.length (fun g wr => ∃ ks' : List Nat, g = ks'.length ∧ Hid (lftK l t ks = lftK l t ks') ∧ Hid (BoxK wr b ks') ∧ Hid (∀ k ∈ ks', k < n) ∧ Hid (Below D w wr ∧ (∀ q, q ≠ b → wr.heap[q]? = w.heap[q]?) ∧ wr.heap.size = w.heap.size))
  case atStart => exact ⟨ks, rfl, Lib.hid rfl, HB, HK, Lib.hid ⟨Below.refl _ _, fun _ _ => rfl, rfl⟩⟩
  case round =>
    obtain ⟨ks', rfl, HE, HX, HKK, HW⟩ := hrel
    obtain ⟨ka, kc, hxb, hkc, hxk⟩ := HX.out
    have cb := cell_of_one hxb
    have fb := free_of_one hxb
    have cn := cell_of_one ((HW.out.2.1 bn (fun e => hne e.symm)).trans HN.out)
    have HXB := Lib.hid hxb
    cases ks' with
    | nil =>
      clear hxb hxk
      rw [List.length_nil] at cb
      go_wp2
      first | go_quiet (fail) | fail
      go_wp2
      first | go_quiet (fail) | fail
      go_wp2
      go_ret
      refine ⟨ret_bool (by rw [HE.out]; rfl), by rw [HE.out]; exact ⟨ka, kc, HXB.out, hkc, fun j k h => by simp [lftK] at h⟩, ?_⟩
      exact ⟨below_drewN (below_drewN HW.out.1 _) _, HW.out.2.1, HW.out.2.2⟩
    | cons k ks' =>
      obtain ⟨g, off, rfl, hgb, ck⟩ := hxk 0 k rfl
      rw [Nat.add_zero] at ck
      have hkn := HKK.out k List.mem_cons_self
      have hx := nodes_some HL.out hkn
      obtain ⟨g0, o0, rfl, c0, c1, c2, c3, c4⟩ := HL.out.2 k _ hx
      have hg0 := HG.out g0 o0 rfl
      have e3 : wr.cell? ⟨g0, o0 + k * 5 + 3, none⟩ = _ := (World.cell?_of_block (w := w) (HW.out.2.1 g0 hg0)).trans c3
      have e4 : wr.cell? ⟨g0, o0 + k * 5 + 4, none⟩ = _ := (World.cell?_of_block (w := w) (HW.out.2.1 g0 hg0)).trans c4
      have HS : Hid (lftK l t (k :: ks') = if (l.getD k nd0).hi ≤ t then lftK l t ks' else k :: ks') := Lib.hid lftK_cons
      have HH : Hid (headK l t (k :: ks') = decide ((l.getD k nd0).lo ≤ t)) := Lib.hid rfl
      generalize l.getD k nd0 = z at e3 e4 HS HH
      rw [List.length_cons] at cb hkc
      have j1 : (0 : Int) ≤ k := by omega
      have j2 : (k : Int) < n := by omega
      have HXK := Lib.hid hxk
      clear hx c0 c1 c2 c3 c4 hxb hxk
      have j3 : (0 : Int) < ks'.length + 1 := by omega
      have j4 : 0 < ks'.length + 1 := by omega
      by_cases hz : z.hi ≤ t
      · have HZ := HS.out
        rw [if_pos hz] at HZ
        have HZ2 := Lib.hid HZ
        have d1 : decide (z.hi ≤ t) = true := decide_eq_true hz
        clear HZ hz
        go_wp2
        first | go_quiet (fail) | fail
        by_cases hc1 : kc = 1
        · subst hc1
          obtain rfl : ks' = [] := List.length_eq_zero_iff.1 (by omega)
          go_wp2
          go_roundg 0
          case measure => simp
          case rel => exact ⟨[], rfl, Lib.hid (by rw [HE.out, HZ2.out]), Lib.hid ⟨_, _, one_setCell HXB.out, Nat.zero_le _, fun j k h => by simp at h⟩, Lib.hid (fun k h => by simp at h), Lib.hid ⟨(below_drewN HW.out.1 _).setCell (p := ⟨b, 0, none⟩) hD _, fun q hq => (Below.heap_setCell _ _ _ _ hq).trans (HW.out.2.1 q hq), by simp; exact HW.out.2.2⟩⟩
        · have hc2 : ¬ 1 = kc := fun e => hc1 e.symm
          go_wp2
          go_roundg ks'.length
          case measure => simp
          case rel =>
            refine ⟨ks', rfl, Lib.hid (by rw [HE.out, HZ2.out]), Lib.hid ⟨some ⟨g, off + 1, none⟩, kc - 1, one_setCell HXB.out, by omega, fun j x hj => ⟨g, off + 1, rfl, hgb, ?_⟩⟩, Lib.hid (fun x hx => HKK.out x (List.mem_cons_of_mem _ hx)), Lib.hid ⟨(below_drewN HW.out.1 _).setCell (p := ⟨b, 0, none⟩) hD _, fun q hq => (Below.heap_setCell _ _ _ _ hq).trans (HW.out.2.1 q hq), by simp; exact HW.out.2.2⟩⟩
            obtain ⟨g', o', e, _, c⟩ := HXK.out (j + 1) x (by simpa using hj)
            cases e
            rw [show off + 1 + j = off + (j + 1) by omega]
            exact (World.cell?_of_block (w := wr) (Below.heap_setCell _ _ _ _ (by show g ≠ b; omega))).trans c
      · have HZ := HS.out
        rw [if_neg hz] at HZ
        have HZ2 := Lib.hid HZ
        have d1 : decide (z.hi ≤ t) = false := decide_eq_false hz
        clear HZ hz
        go_wp2
        first | go_quiet (fail) | fail
        go_wp2
        first | go_quiet (fail) | fail
        go_wp2
        go_ret
        refine ⟨?_, by rw [HE.out, HZ2.out]; exact HX.out, below_drewN (below_drewN HW.out.1 _) _, HW.out.2.1, HW.out.2.2⟩
        rw [HE.out, HZ2.out, HH.out]
        rfl
end Go.Proofs.Ytdlpminekojahaa
