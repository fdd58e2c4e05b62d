/-
  Layer 8: the tokens of lexemes, plain; the two variables that semi.Of's closure holds; contract of that closure.
-/
import Derived.Test.YtbkmlldhjchhjaaGreatTf
namespace Go.Proofs.YtbkmlldhjchhjaaGreat
open Go.ChangeShapes Go.WideShapes Go.ChangeAt Go.RowKit

def textAt (l : List UInt8) (x : Nat × Nat × Nat) : List UInt8 := (l.drop x.2.1).take (x.2.2 - x.2.1)
/-- the semicolon that a line's end puts in, if the last token may end a line -/
def semiO : Option Nat → List (Nat × Nat × Nat)
  | some z => [(9, z, z)]
  | none => []
/-- the tokens of lexemes: which token's end is open -/
def sems (l : List UInt8) : Option Nat → List (Nat × Nat × Nat) → List (Nat × Nat × Nat)
  | o, [] => semiO o
  | o, x :: T => if silentB x.1 = true then (if (textAt l x).contains 10 = true then semiO o ++ sems l none T else sems l o T) else x :: sems l (if endsB x.1 (textAt l x) = true then some x.2.2 else none) T
/-- all tokens of a text, and the fault -/
def semAns (l : List UInt8) : List (Nat × Nat × Nat) × Int × Int := if (allAns l).2.1 = 0 then (sems l none (allAns l).1, 0, 0) else ([], (allAns l).2.1, (allAns l).2.2)
/-- the two variables: the tokens so far, and whether a line's end puts a semicolon in -/
structure Box (w : World) (bu bo B : Nat) (o : Option Nat) (v : Value) (T : List (Nat × Nat × Nat)) : Prop where
  out : w.heap[bu]? = some (.cells #[v] 23 (0, 0))
  opn : w.heap[bo]? = some (.cells #[.bool o.isSome] 4 (0, 0))
  own : OwnT w B v T
  h1 : bu < B
  h2 : bo < B
  h3 : bu ≠ bo
  last : ∀ z, o = some z → ∃ T0 k p, T = T0 ++ [(k, p, z)]
theorem Box.below {w w' : World} {bu bo B : Nat} {o : Option Nat} {v : Value} {T : List (Nat × Nat × Nat)} (h : Box w bu bo B o v T) (hB : Below w.heap.size w w') : Box w' bu bo B o v T :=
  ⟨(hB.block bu (Array.getElem?_eq_some_iff.1 h.out).1).trans h.out, (hB.block bo (Array.getElem?_eq_some_iff.1 h.opn).1).trans h.opn, toks_below h.own hB, h.h1, h.h2, h.h3, h.last⟩
theorem own_set {w : World} {B : Nat} {v : Value} {T : List (Nat × Nat × Nat)} (h : OwnT w B v T) {p : Addr} (hp : p.block < B) (u : Value) : OwnT (w.setCell p u) B v T := by
  refine ⟨h.1, ?_⟩
  rcases h.2 with h | ⟨g, cap, cur, e, hb, hg, r⟩
  · exact .inl h
  · exact .inr ⟨g, cap, cur, e, hb, by rw [Below.heap_setCell _ _ _ _ (by omega)]; exact hg, r⟩
theorem Box.cu {w : World} {bu bo B : Nat} {o : Option Nat} {v : Value} {T : List (Nat × Nat × Nat)} (h : Box w bu bo B o v T) : w.cell? ⟨bu, 0, none⟩ = some v ∧ w.frozen? ⟨bu, 0, none⟩ = false := by
  have := h.out
  exact ⟨by unfold World.cell?; simp only [this]; rfl, by unfold World.frozen?; simp [this]⟩
theorem Box.co {w : World} {bu bo B : Nat} {o : Option Nat} {v : Value} {T : List (Nat × Nat × Nat)} (h : Box w bu bo B o v T) : w.cell? ⟨bo, 0, none⟩ = some (.bool o.isSome) ∧ w.frozen? ⟨bo, 0, none⟩ = false := by
  have := h.opn
  exact ⟨by unfold World.cell?; simp only [this]; rfl, by unfold World.frozen?; simp [this]⟩
/-- the two stores behind an append -/
theorem Box.put {w : World} {bu bo B : Nat} {o : Option Nat} {v v' : Value} {T' : List (Nat × Nat × Nat)} (h : w.heap[bu]? = some (.cells #[v] 23 (0, 0))) (h' : w.heap[bo]? = some (.cells #[.bool o.isSome] 4 (0, 0))) (hO : OwnT w B v' T') (h1 : bu < B) (h2 : bo < B) (h3 : bu ≠ bo) (o' : Option Nat) (hl : ∀ z, o' = some z → ∃ T0 k p, T' = T0 ++ [(k, p, z)]) :
    Box ((w.setCell ⟨bu, 0, none⟩ v').setCell ⟨bo, 0, none⟩ (.bool o'.isSome)) bu bo B o' v' T' := by
  refine ⟨?_, ?_, own_set (own_set hO h1 _) h2 _, h1, h2, h3, hl⟩
  · rw [Below.heap_setCell _ _ _ _ (by show bu ≠ bo; exact h3), heap_setCell_same w bu 0 _ 23 _ h]; rfl
  · rw [heap_setCell_same (w.setCell ⟨bu, 0, none⟩ v') bo 0 #[.bool o.isSome] 4 _ (by rw [Below.heap_setCell _ _ _ _ (by show bo ≠ bu; exact h3.symm)]; exact h')]; rfl
theorem Box.shut {w : World} {bu bo B : Nat} {o : Option Nat} {v : Value} {T : List (Nat × Nat × Nat)} (h : Box w bu bo B o v T) (o' : Option Nat) (hl : ∀ z, o' = some z → ∃ T0 k p, T = T0 ++ [(k, p, z)]) : Box (w.setCell ⟨bo, 0, none⟩ (.bool o'.isSome)) bu bo B o' v T := by
  refine ⟨?_, ?_, own_set h.own h.h2 _, h.h1, h.h2, h.h3, hl⟩
  · rw [Below.heap_setCell _ _ _ _ (by show bu ≠ bo; exact h.h3)]; exact h.out
  · rw [heap_setCell_same w bo 0 _ 4 _ h.opn]; rfl
set_option maxRecDepth 100000 in
set_option maxHeartbeats 4000000 in
theorem end_any (w : World) (bu bo B D : Nat) (o : Option Nat) (v : Value) (T : List (Nat × Nat × Nat)) (h : Box w bu bo B o v T) (hD1 : D ≤ bu) (hD2 : D ≤ bo) (_hDB : D ≤ B) (hBs : B ≤ w.heap.size) (hT : T.length ≤ 1048576) :
    Calls Tryz.prog 17 #[.pointer (some ⟨bo, 0, none⟩), .pointer (some ⟨bu, 0, none⟩)] w fun e w' => e = .returned (.tuple #[]) ∧ (∃ v', Box w' bu bo B none v' (T ++ semiO o)) ∧ Below D w w' := by
  obtain ⟨cu, fu⟩ := h.cu
  obtain ⟨co, fo⟩ := h.co
  cases o with
  | none =>
    have H := Lib.hid h
    clear h
    have co : w.cell? ⟨bo, 0, none⟩ = some (.bool false) := co
    go_enter Tryz.func17, Tryz.ntmps17
    go_wp2
    go_end0
    exact ⟨rfl, ⟨v, by rw [show T ++ semiO none = T from List.append_nil T]; exact H.out⟩, Below.refl _ _⟩
  | some z =>
    have co : w.cell? ⟨bo, 0, none⟩ = some (.bool true) := co
    obtain ⟨i0, hi, hy0, hy1, hy2⟩ := info_parts info26z
    obtain ⟨T0, k, p, hT0⟩ := h.last z rfl
    have hO := h.own
    obtain ⟨g, cap, rfl, hg1, hg2⟩ := World.ownsRow.form hO (by rw [hT0]; simp)
    have hlen : T.length = T0.length + 1 := by rw [hT0]; simp
    obtain ⟨m, hm⟩ : ∃ m, m = T0.length := ⟨_, rfl⟩
    have hx : T[m]? = some (k, p, z) := by rw [hT0, hm]; simp
    obtain ⟨_, _, t2⟩ := tcells_at T m _ hx
    have c2 := (World.ownsRow.cellAt hO (m * 3 + 2) (by omega)).trans t2
    dsimp only at c2
    have hout := h.out
    have hopn := h.opn
    have hb := And.intro h.h1 (And.intro h.h2 h.h3)
    rw [hlen, ← hm] at cu hO hout
    have HO := Lib.hid hO
    have HOUT := Lib.hid hout
    have HOPN := Lib.hid hopn
    have HBB := Lib.hid hb
    clear hout hopn hb
    have HL := Lib.hid hlen
    have hm2 : m ≤ 1048576 := by omega
    have e1 : ((m + 1 : Nat) : Int) - 1 = (m : Int) := by omega
    have hgb := hO.lt g rfl
    have HM := Lib.hid hm
    clear h hO t2 hx hT0 hlen hm
    go_enter Tryz.func17, Tryz.ntmps17
    go_wp2_with (at_builtin; refine wpList_append_own _ rfl _ _ 23 rfl B 40 i0 (.agg #[.int .u8 0, .int .i64 0, .int .i64 0]) 3 24 Tryz.underlying23 hi hy0 hy1 hy2 rfl (by decide) _ _ _ rfl (HO.out.alloc _) ⟨w.heap.size, 0, none⟩ 1 1 [.int .u8 9, .int .i64 z, .int .i64 z] rfl rfl ?c1 ?c2 ?c3 ?c4 ?c5 ?_)
    case c2 => exact ⟨rfl, rfl⟩
    case c3 => unfold maxLen; omega
    case c4 => omega
    case c5 => omega
    · intro v3 w4 hown3 hg3 _
      obtain ⟨g3, cap3, hv3, _, _⟩ := World.ownsRow.form hown3 (by omega)
      subst hv3
      have hM3 : OwnT w4 B (.slice (some ⟨g3, 0, none⟩) (T.length + 1) cap3) (T ++ [(9, z, z)]) := by
        unfold OwnT
        rw [tcells_app, List.length_append]
        exact hown3
      obtain ⟨b1, b2, b3⟩ := HBB.out
      have k1 : w4.heap[bu]? = _ := (hg3.block bu (by simp; omega) (by rintro e; injection e with e; have e : bu = g := e; omega)).trans ((Below.heap_alloc _ _ _ (by omega)).trans HOUT.out)
      have k2 : w4.heap[bo]? = _ := (hg3.block bo (by simp; omega) (by rintro e; injection e with e; have e : bo = g := e; omega)).trans ((Below.heap_alloc _ _ _ (by omega)).trans HOPN.out)
      have hB4 : Below D w w4 := ((Below.refl D w).alloc (by omega) _).grown hg3 (by simp; omega) (fun q hq => by have := (HO.out.lt q hq).1; omega)
      have f1 : w4.cell? ⟨bu, 0, none⟩ = some (.slice (some ⟨g, 0, none⟩) (m + 1) cap) := by unfold World.cell?; simp only [k1]; rfl
      have f2 : w4.frozen? ⟨bu, 0, none⟩ = false := by unfold World.frozen?; simp [k1]
      have f3 : w4.cell? ⟨bo, 0, none⟩ = some (.bool true) := by unfold World.cell?; simp only [k2]; rfl
      have f4 : w4.frozen? ⟨bo, 0, none⟩ = false := by unfold World.frozen?; simp [k2]
      have HP := Lib.hid (Box.put (o := some z) k1 k2 hM3 b1 b2 b3 none (fun z h => by cases h))
      have HB5 := Lib.hid ((hB4.setCell (p := ⟨bu, 0, none⟩) hD1 (.slice (some ⟨g3, 0, none⟩) (T.length + 1) cap3)).setCell (p := ⟨bo, 0, none⟩) hD2 (.bool false))
      have hne : ¬ bo = bu := fun e => b3 e.symm
      clear k1 k2 hB4 hM3 hown3 hg3 b1 b2 b3 cu co fu fo c2
      go_wp2
      go_end0
      exact ⟨rfl, ⟨_, HP.out⟩, HB5.out⟩
end Go.Proofs.YtbkmlldhjchhjaaGreat
