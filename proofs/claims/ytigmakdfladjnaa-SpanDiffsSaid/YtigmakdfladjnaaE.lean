/-
  Layer 3: the edited text.
-/
import Derived.Test.YtigmakdfladjnaaD
import Derived.Laws.MakeOwn
namespace Go.Proofs.Ytigmakdfladjnaa
open Go.ChangeShapes Go.WideShapes Go.ChangeAt Go.RowKit

/-- the text that edits make, from a place on -/
def textOf (s : List UInt8) : Nat → List Ed → List UInt8
  | r, [] => s.drop r
  | r, x :: l => (s.drop r).take (x.lo.toNat - r) ++ x.tx.data.toList ++ textOf s x.hi.toNat l
def vals (l : List UInt8) : List Value := l.map fun x => Value.int .u8 (x.toNat : Int)
/-- the bytes that are there, in a row of n: P so far -/
def Put (w : World) (g ba bo n : Nat) (P : List UInt8) : Prop :=
  w.heap[ba]? = some (.cells #[.int .i64 P.length] 3 (0, 0)) ∧ w.heap[bo]? = some (.cells #[.slice (some ⟨g, 0, none⟩) n n] 47 (0, 0)) ∧
    ∃ rest : List Value, w.heap[g]? = some (.cells (vals P ++ rest).toArray 5 (0, 0)) ∧ (vals P ++ rest).length = n
theorem setCells_heap (g : Nat) (t : TypeId) : ∀ (vs : List Value) (o : Nat) (w : World) (pre mid post : List Value), mid.length = vs.length → pre.length = o →
    w.heap[g]? = some (.cells (pre ++ mid ++ post).toArray t (0, 0)) → (w.setCells g o vs).heap[g]? = some (.cells (pre ++ vs ++ post).toArray t (0, 0))
  | [], o, w, pre, mid, post, hm, _, h => by
    have : mid = [] := List.length_eq_zero_iff.1 (by simpa using hm)
    subst this; simpa [World.setCells] using h
  | v :: vs, o, w, pre, mid, post, hm, hp, h => by
    obtain ⟨m0, mid', rfl⟩ : ∃ m0 mid', mid = m0 :: mid' := by
      cases mid with
      | nil => simp at hm
      | cons a b => exact ⟨a, b, rfl⟩
    unfold World.setCells
    have h1 : (w.setCell ⟨g, o, none⟩ v).heap[g]? = some (.cells ((pre ++ [v]) ++ mid' ++ post).toArray t (0, 0)) := by
      rw [heap_setCell_same w g o _ t v h]
      congr 2
      apply Array.ext'
      simp [← hp]
    have := setCells_heap g t vs (o + 1) (w.setCell ⟨g, o, none⟩ v) (pre ++ [v]) mid' post (by simpa using hm) (by simp [hp]) h1
    simpa using this
theorem setCells_other (g : Nat) {i : Nat} (hne : i ≠ g) : ∀ (vs : List Value) (o : Nat) (w : World), (w.setCells g o vs).heap[i]? = w.heap[i]?
  | [], _, _ => rfl
  | v :: vs, o, w => by
    unfold World.setCells
    rw [setCells_other g hne vs (o + 1), Below.heap_setCell _ _ _ _ hne]
theorem setCells_below {B g : Nat} (hg : B ≤ g) : ∀ (vs : List Value) (o : Nat) (w : World), Below B w (w.setCells g o vs)
  | [], _, _ => Below.refl _ _
  | v :: vs, o, w => by
    unfold World.setCells
    exact ((Below.refl B w).setCell (p := ⟨g, o, none⟩) hg v).trans (setCells_below hg vs (o + 1) _)
theorem vals_append (a b : List UInt8) : vals (a ++ b) = vals a ++ vals b := by simp [vals]
theorem vals_length (a : List UInt8) : (vals a).length = a.length := by simp [vals]
theorem put_put {w : World} {g ba bo n B : Nat} {P : List UInt8} (hP : Put w g ba bo n P) (s : ByteArray) (hk : P.length + s.size ≤ n) (hn : n ≤ 65536) (h1 : ba ≠ g) (h2 : bo ≠ g) (h3 : ba ≠ bo) (hBa : B ≤ ba) (hBg : B ≤ g) :
    Calls Try.prog 32 #[.string s, .pointer (some ⟨ba, 0, none⟩), .pointer (some ⟨bo, 0, none⟩)] w fun e w' => e = .returned (.tuple #[]) ∧ Put w' g ba bo n (P ++ s.data.toList) ∧ Below B w w' ∧ (∀ i, i ≠ ba → i ≠ g → w'.heap[i]? = w.heap[i]?) := by
  obtain ⟨hA, hO, rest, hG, hlen⟩ := hP
  have hsl : s.data.toList.length = s.size := rfl
  have hrl : rest.length = n - P.length := by rw [List.length_append, vals_length] at hlen; omega
  have cell : ∀ j, j < n → (w.cell? ⟨g, j, none⟩).isSome = true := by
    intro j hj
    unfold World.cell?
    simp only [hG]
    simp
    have := hlen
    simp at this
    omega
  have froz : ∀ j, j < n → w.frozen? ⟨g, j, none⟩ = false := fun j _ => Lib.frozen_of_heap hG j
  refine (put_any w ba bo g n P.length s (by unfold World.cell?; simp only [hA]; rfl) (Lib.frozen_of_heap hA 0) (by unfold World.cell?; simp only [hO]; rfl) cell froz h1 hk hn).mono ?_
  rintro e w' ⟨rfl, rfl⟩
  obtain ⟨mid, post, rfl, hml⟩ : ∃ mid post, rest = mid ++ post ∧ mid.length = s.size := ⟨rest.take s.size, rest.drop s.size, (List.take_append_drop ..).symm, by rw [List.length_take]; omega⟩
  have hG' : w.drew.heap[g]? = some (.cells (vals P ++ mid ++ post).toArray 5 (0, 0)) := by rw [List.append_assoc]; exact hG
  have hset := setCells_heap g 5 (byteVals s) P.length w.drew (vals P) mid post (by rw [hml]; unfold byteVals; rw [List.length_map, hsl]) (vals_length P) hG'
  refine ⟨rfl, ⟨?_, ?_, post, ?_, ?_⟩, ?_, fun i hi1 hi2 => ?_⟩
  · have hA' : (w.drew.setCells g P.length (byteVals s)).heap[ba]? = some (.cells #[.int .i64 P.length] 3 (0, 0)) := by rw [setCells_other g h1]; exact hA
    rw [heap_setCell_same _ ba 0 _ 3 _ hA']
    congr 2
    rw [List.length_append, hsl]
    simp
  · rw [Below.heap_setCell _ _ _ _ (Ne.symm h3), setCells_other g h2]; exact hO
  · rw [Below.heap_setCell _ _ _ _ (Ne.symm h1), hset, vals_append]; rfl
  · simp only [List.length_append, vals_length] at hlen ⊢
    omega
  · exact ((Below.refl B w).drew.trans (setCells_below hBg _ _ _)).setCell (p := ⟨ba, 0, none⟩) hBa _
  · rw [Below.heap_setCell _ _ _ _ hi1, setCells_other g hi2]; rfl
theorem put_alloc {w : World} {g ba bo n : Nat} {P : List UInt8} (hP : Put w g ba bo n P) (o : Obj) : Put (w.alloc o) g ba bo n P := by
  obtain ⟨hA, hO, rest, hG, hlen⟩ := hP
  refine ⟨?_, ?_, rest, ?_, hlen⟩
  · rw [Below.heap_alloc _ _ _ (Array.getElem?_eq_some_iff.1 hA).1]; exact hA
  · rw [Below.heap_alloc _ _ _ (Array.getElem?_eq_some_iff.1 hO).1]; exact hO
  · rw [Below.heap_alloc _ _ _ (Array.getElem?_eq_some_iff.1 hG).1]; exact hG
end Go.Proofs.Ytigmakdfladjnaa
