/-
  Contracts of the document's Words and Word.
-/
import Derived.Test.YtmlaefdfpekhcaaI
import Derived.Great.BuildSlice
import Derived.Outline
namespace Go.Proofs.Ytmlaefdfpekhcaa
open Go.ChangeShapes Go.WideShapes Go.ChangeAt Go.RowKit

/-- a row of strings in a block -/
def Strs (w : World) (b : Nat) (l : List (List UInt8)) : Prop :=
  ∀ (k : Nat) (x : List UInt8), l[k]? = some x → w.cell? ⟨b, k, none⟩ = some (.string ⟨x.toArray⟩)
def strCells (l : List (List UInt8)) : List Value := l.map fun x => .string ⟨x.toArray⟩
theorem strs_new (w : World) (t : TypeId) (c : Array Value) (l : List (List UInt8)) (hc : c = (strCells l).toArray) : Strs (w.alloc (.cells c t)) w.heap.size l := by
  subst hc
  intro k x h
  have hh : (w.alloc (.cells (strCells l).toArray t)).heap[w.heap.size]? = some (.cells (strCells l).toArray t) := by
    show (w.heap.push _)[w.heap.size]? = _
    simp
  unfold World.cell?
  simp only [hh]
  simp [strCells, h]
theorem info9 : (Try.prog.info? 9).map (fun i => (i.zero, i.size, i.bytes)) = some (some (.string ⟨#[]⟩), 1, 16) := by kernel_rfl
set_option maxRecDepth 100000 in
set_option maxHeartbeats 1000000 in
theorem rwords_any (w : World) :
    Calls Try.prog 42 #[] w fun e w' => e = .returned (.slice (some ⟨w.heap.size, 0, none⟩) 25 25) ∧ w' = w.alloc (.cells (strCells words).toArray 9) := by
  obtain ⟨i0, hi, hz0, hz1, _⟩ := info_parts info9
  have hs1 : ¬ 25 * i0.size > 2 ^ 24 := by rw [hz1]; decide
  have hs2 : ¬ 25 * i0.size = 0 := by rw [hz1]; decide
  have HZ := Lib.hid hz1
  clear hz1
  go_enter Try.func42, Try.ntmps42
  go_wp2_with (first
    | (refine wpList_buildSlice rfl 54 9 25 _ rfl (strCells words).toArray i0 _ Try.underlying54 hi hz0 hs1 hs2 (by rw [HZ.out]; kernel_rfl) ?_))
  go_ret
  exact ⟨rfl, rfl⟩
theorem contains_at (l : List (List UInt8)) (k : Nat) (x s : List UInt8) (h : l[k]? = some x) : (l.drop k).contains s = ((x == s) || (l.drop (k + 1)).contains s) := by
  obtain ⟨hk, he⟩ := List.getElem?_eq_some_iff.mp h
  rw [List.drop_eq_getElem_cons hk, he, List.contains_cons, Bool.beq_comm]
set_option maxHeartbeats 1000000 in
theorem rword_any (s : ByteArray) (w : World) :
    Calls Try.prog 39 #[.string s] w fun e w' => e = .returned (.bool (isWord s.data.toList)) ∧ Below w.heap.size w w' := by
  have hP := strs_new w 9 _ words rfl
  have hB : Below w.heap.size w (w.alloc (.cells (strCells words).toArray 9)) := (Below.refl _ w).alloc (Nat.le_refl _) _
  obtain ⟨W, hW⟩ : ∃ W, W = w.alloc (.cells (strCells words).toArray 9) := ⟨_, rfl⟩
  rw [← hW] at hP hB
  have HWW := Lib.hid hW
  clear hW
  go_enter Try.func39, Try.ntmps39
  go_wp2_with (first
    | (go_at_call 42; refine (rwords_any _).mono ?_; rintro e w' ⟨rfl, h0⟩; rw [← HWW.out] at h0; subst h0))
  go_loop [4] (fun i => ∃ k : Nat, k ≤ 25 ∧ i = .int .i64 k ∧ Hid (isWord s.data.toList = (words.drop k).contains s.data.toList)) (fun i => 25 - (intOf i).toNat)
  case atStart => exact ⟨0, Nat.zero_le _, rfl, Lib.hid rfl⟩
  case round =>
    obtain ⟨k, hk, rfl, HW⟩ := hrel
    by_cases hlt : k < 25
    · obtain ⟨x, hx⟩ : ∃ x, words[k]? = some x := ⟨words[k]'hlt, List.getElem?_eq_getElem hlt⟩
      have hc1 := hP k x hx
      have HA := Lib.hid (contains_at words k x s.data.toList hx)
      clear hx hP
      by_cases h1 : x = s.data.toList
      · have h2 : (x == s.toList) = true := by rw [ByteArray.toList_eq]; simp [h1]
        have H1 := Lib.hid h1
        clear h1
        go_wp2
        go_ret
        exact ⟨ret_bool (by rw [HW.out, HA.out, H1.out]; simp), hB⟩
      · have h2 : (x == s.toList) = false := by rw [ByteArray.toList_eq]; simp [h1]
        have H1 := Lib.hid h1
        clear h1
        go_wp2
        go_round
        case rel => exact ⟨k + 1, by omega, by go_num, Lib.hid (by rw [HW.out, HA.out]; simp [H1.out])⟩
        case measure => simp [intOf]; omega
    · obtain rfl : k = 25 := by omega
      go_wp2
      go_ret
      exact ⟨ret_bool (by rw [HW.out]; rfl), hB⟩
end Go.Proofs.Ytmlaefdfpekhcaa
