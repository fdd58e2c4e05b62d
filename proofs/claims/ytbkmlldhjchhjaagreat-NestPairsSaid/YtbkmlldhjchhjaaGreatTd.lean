/-
  Layer 7: contract of the law ScanApart.
-/
import Derived.Test.YtbkmlldhjchhjaaGreatTb
import Derived.Test.YtbkmlldhjchhjaaGreatTc
import Derived.Laws.Concat
namespace Go.Proofs.YtbkmlldhjchhjaaGreat
open Go.ChangeShapes Go.WideShapes Go.ChangeAt Go.RowKit

theorem ba_ext {a b : ByteArray} (h : a.data.toList = b.data.toList) : a = b := by
  cases a; cases b
  congr 1
  exact Array.toList_inj.1 h
theorem ba_list (a : ByteArray) : a.data.toList.length = a.size := by simp
theorem tiles_bounds {l : List UInt8} : ∀ (T : List (Nat × Nat × Nat)) (p : Nat), Tiles l p T → ∀ x ∈ T, x.2.1 < x.2.2 ∧ x.2.2 ≤ l.length
  | [], _, _, x, hx => by cases hx
  | y :: T, p, h, x, hx => by
    obtain ⟨rfl, hk, h1, h2, h3, h4⟩ := h
    rcases List.mem_cons.1 hx with rfl | hx
    · exact ⟨h1, h2⟩
    · exact tiles_bounds T _ h4 x hx
theorem texts_drop {l : List UInt8} {T : List (Nat × Nat × Nat)} {k : Nat} {x : Nat × Nat × Nat} (hx : T[k]? = some x) : texts l (T.drop k) = (x.1, (l.drop x.2.1).take (x.2.2 - x.2.1)) :: texts l (T.drop (k + 1)) := by
  obtain ⟨h1, h2⟩ := List.getElem?_eq_some_iff.1 hx
  rw [List.drop_eq_getElem_cons h1, h2]; rfl
theorem words_ten {l : List UInt8} {T : List (Nat × Nat × Nat)} {k : Nat} {x : Nat × Nat × Nat} (hx : T[k]? = some x) (h : x.1 = 10) : wordsW (texts l (T.drop k)) = wordsW (texts l (T.drop (k + 1))) := by
  rw [texts_drop hx, h]; rfl
theorem words_not {l : List UInt8} {T : List (Nat × Nat × Nat)} {k : Nat} {x : Nat × Nat × Nat} (hx : T[k]? = some x) (h : x.1 ≠ 10) : wordsW (texts l (T.drop k)) = (x.1, (l.drop x.2.1).take (x.2.2 - x.2.1)) :: wordsW (texts l (T.drop (k + 1))) := by
  rw [texts_drop hx]
  unfold wordsW
  rw [List.filter_cons_of_pos (by simpa using h)]
theorem words_end {l : List UInt8} {T : List (Nat × Nat × Nat)} : wordsW (texts l (T.drop T.length)) = [] := by
  rw [List.drop_length]; rfl
theorem apart_step {l : List UInt8} {T : List (Nat × Nat × Nat)} {k : Nat} {x : Nat × Nat × Nat} (hx : T[k]? = some x) : apart (texts l (T.take (k + 1))) = apart (texts l (T.take k)) ++ ((l.drop x.2.1).take (x.2.2 - x.2.1) ++ [10]) := by
  obtain ⟨h1, h2⟩ := List.getElem?_eq_some_iff.1 hx
  rw [List.take_succ_eq_append_getElem h1, h2]
  unfold texts apart
  rw [List.map_append, List.flatMap_append]
  simp
theorem apart_le {l : List UInt8} (T : List (Nat × Nat × Nat)) (k : Nat) : (apart (texts l (T.take k))).length ≤ (apart (texts l T)).length := by
  conv => rhs; rw [← List.take_append_drop k T]
  unfold texts apart
  rw [List.map_append, List.flatMap_append, List.length_append]
  omega
end Go.Proofs.YtbkmlldhjchhjaaGreat
