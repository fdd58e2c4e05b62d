/-
  Layer 3: common bytes ahead and behind of two lists; an edit made less.
-/
import Derived.Test.YtigmakdfladjnaaL
namespace Go.Proofs.Ytigmakdfladjnaa
open Go.ChangeShapes Go.WideShapes Go.ChangeAt Go.RowKit

/-- how many bytes ahead two lists have in common -/
def cpl : List UInt8 → List UInt8 → Nat
  | a :: l, b :: m => if a = b then cpl l m + 1 else 0
  | _, _ => 0
theorem cpl_le : ∀ l m, cpl l m ≤ l.length ∧ cpl l m ≤ m.length
  | [], _ => by simp [cpl]
  | _ :: _, [] => by simp [cpl]
  | a :: l, b :: m => by
    have := cpl_le l m
    unfold cpl
    split <;> simp <;> omega
theorem cpl_same : ∀ l m i, i < cpl l m → l[i]? = m[i]?
  | [], _, _, h => by simp [cpl] at h
  | _ :: _, [], _, h => by simp [cpl] at h
  | a :: l, b :: m, i, h => by
    unfold cpl at h
    split at h
    · rename_i e
      cases i with
      | zero => simp [e]
      | succ i => simpa using cpl_same l m i (by omega)
    · omega
theorem cpl_max : ∀ l m, cpl l m < l.length → cpl l m < m.length → l[cpl l m]? ≠ m[cpl l m]?
  | [], _, h, _ => by simp at h
  | _ :: _, [], _, h => by simp at h
  | a :: l, b :: m, h1, h2 => by
    by_cases e : a = b
    · have : cpl (a :: l) (b :: m) = cpl l m + 1 := by rw [cpl, if_pos e]
      rw [this] at h1 h2 ⊢
      simpa using cpl_max l m (by simpa using h1) (by simpa using h2)
    · have : cpl (a :: l) (b :: m) = 0 := by rw [cpl, if_neg e]
      rw [this]
      simpa using e
theorem cpl_is {l m : List UInt8} {k : Nat} (h1 : ∀ i, i < k → l[i]? = m[i]? ∧ i < l.length ∧ i < m.length) (h2 : k < l.length → k < m.length → l[k]? ≠ m[k]?) (hl : k ≤ l.length) (hm : k ≤ m.length) : cpl l m = k := by
  rcases Nat.lt_trichotomy (cpl l m) k with h | h | h
  · obtain ⟨e, a, b⟩ := h1 _ h
    exact absurd e (cpl_max l m a b)
  · exact h
  · have hh := cpl_le l m
    exact absurd (cpl_same l m k h) (h2 (by omega) (by omega))

/-- how many bytes an edit is made less ahead, and then behind -/
def front (s : ByteArray) (x : Ed) : Nat := cpl ((s.data.toList.drop x.lo.toNat).take (x.hi.toNat - x.lo.toNat)) x.tx.data.toList
def mid (s : ByteArray) (x : Ed) : List UInt8 := (s.data.toList.drop (x.lo.toNat + front s x)).take (x.hi.toNat - (x.lo.toNat + front s x))
def back (s : ByteArray) (x : Ed) : Nat := cpl (mid s x).reverse (x.tx.data.toList.drop (front s x)).reverse
/-- an edit made less -/
def less (s : ByteArray) (x : Ed) : Ed := ⟨x.lo + front s x, x.hi - back s x, x.tx.extract (front s x) (x.tx.size - back s x)⟩
/-- an edit of a text -/
def Good (s : ByteArray) (x : Ed) : Prop := 0 ≤ x.lo ∧ x.lo ≤ x.hi ∧ x.hi ≤ s.size
theorem get_at (s : ByteArray) (i : Nat) (h : i < s.size) : s.data.toList[i]? = some s[i] := by
  rw [List.getElem?_eq_getElem (by simpa using h)]; rfl
theorem front_le (s : ByteArray) (x : Ed) (hg : Good s x) : x.lo + front s x ≤ x.hi ∧ front s x ≤ x.tx.size := by
  obtain ⟨g1, g2, g3⟩ := hg
  have h := cpl_le ((s.data.toList.drop x.lo.toNat).take (x.hi.toNat - x.lo.toNat)) x.tx.data.toList
  have h1 : x.tx.data.toList.length = x.tx.size := rfl
  have h2 : s.data.toList.length = s.size := rfl
  rw [List.length_take, List.length_drop] at h
  unfold front
  omega
theorem front_same (s : ByteArray) (x : Ed) (hg : Good s x) (j : Nat) (hj : j < front s x) (h1 : x.lo.toNat + j < s.size) (h2 : j < x.tx.size) : s[x.lo.toNat + j] = x.tx[j] := by
  have hl := front_le s x hg
  obtain ⟨g1, g2, g3⟩ := hg
  have h := cpl_same _ _ j hj
  rw [List.getElem?_take_of_lt (by omega), List.getElem?_drop, get_at s _ h1, get_at x.tx j h2] at h
  exact Option.some.inj h
theorem front_max (s : ByteArray) (x : Ed) (hg : Good s x) (h1 : x.lo + front s x < x.hi) (h2 : front s x < x.tx.size) (h3 : x.lo.toNat + front s x < s.size) : s[x.lo.toNat + front s x] ≠ x.tx[front s x] := by
  obtain ⟨g1, g2, g3⟩ := hg
  have hs : s.data.toList.length = s.size := rfl
  have h := cpl_max ((s.data.toList.drop x.lo.toNat).take (x.hi.toNat - x.lo.toNat)) x.tx.data.toList (by rw [List.length_take, List.length_drop]; unfold front at h1; omega) h2
  show s[x.lo.toNat + front s x] ≠ _
  intro e
  refine h ?_
  show (List.take _ (List.drop _ _))[front s x]? = x.tx.data.toList[front s x]?
  rw [List.getElem?_take_of_lt (by omega), List.getElem?_drop, get_at s _ h3, get_at x.tx _ h2, e]
theorem mid_len (s : ByteArray) (x : Ed) (hg : Good s x) : ((mid s x).length : Int) = x.hi - (x.lo + front s x) := by
  have hl := front_le s x hg
  obtain ⟨g1, g2, g3⟩ := hg
  have hs : s.data.toList.length = s.size := rfl
  unfold mid
  rw [List.length_take, List.length_drop]
  omega
theorem back_le (s : ByteArray) (x : Ed) (hg : Good s x) : x.lo + front s x ≤ x.hi - back s x ∧ front s x + back s x ≤ x.tx.size := by
  have hl := front_le s x hg
  have hm := mid_len s x hg
  have h := cpl_le (mid s x).reverse (x.tx.data.toList.drop (front s x)).reverse
  have h1 : x.tx.data.toList.length = x.tx.size := rfl
  rw [List.length_reverse, List.length_reverse, List.length_drop] at h
  unfold back
  omega
theorem mid_at (s : ByteArray) (x : Ed) (hg : Good s x) (j : Nat) (hj : j < (mid s x).length) (h1 : x.hi.toNat - 1 - j < s.size) : (mid s x).reverse[j]? = some s[x.hi.toNat - 1 - j] := by
  have hm := mid_len s x hg
  have hl := front_le s x hg
  obtain ⟨g1, g2, g3⟩ := hg
  rw [List.getElem?_reverse hj]
  unfold mid
  have h2 : x.lo.toNat + front s x + ((List.take (x.hi.toNat - (x.lo.toNat + front s x)) (List.drop (x.lo.toNat + front s x) s.data.toList)).length - 1 - j) = x.hi.toNat - 1 - j := by
    have : (List.take (x.hi.toNat - (x.lo.toNat + front s x)) (List.drop (x.lo.toNat + front s x) s.data.toList)).length = (mid s x).length := rfl
    omega
  rw [List.getElem?_take_of_lt (by have : (List.take (x.hi.toNat - (x.lo.toNat + front s x)) (List.drop (x.lo.toNat + front s x) s.data.toList)).length = (mid s x).length := rfl; omega), List.getElem?_drop, h2, get_at s _ h1]
theorem tail_at (x : Ed) (k j : Nat) (hj : k + j < x.tx.size) (h1 : x.tx.size - 1 - j < x.tx.size) : (x.tx.data.toList.drop k).reverse[j]? = some x.tx[x.tx.size - 1 - j] := by
  have hs : x.tx.data.toList.length = x.tx.size := rfl
  rw [List.getElem?_reverse (by rw [List.length_drop]; omega), List.getElem?_drop, List.length_drop, hs, show k + (x.tx.size - k - 1 - j) = x.tx.size - 1 - j by omega, get_at x.tx _ h1]
theorem back_same (s : ByteArray) (x : Ed) (hg : Good s x) (j : Nat) (hj : j < back s x) (h1 : x.hi.toNat - 1 - j < s.size) (h2 : x.tx.size - 1 - j < x.tx.size) : s[x.hi.toNat - 1 - j] = x.tx[x.tx.size - 1 - j] := by
  have hb := back_le s x hg
  have hm := mid_len s x hg
  have h := cpl_same _ _ j hj
  rw [mid_at s x hg j (by omega) h1, tail_at x _ j (by omega) h2] at h
  exact Option.some.inj h
theorem back_max (s : ByteArray) (x : Ed) (hg : Good s x) (h1 : x.lo + front s x < x.hi - back s x) (h2 : front s x + back s x < x.tx.size) (h3 : x.hi.toNat - 1 - back s x < s.size) (h4 : x.tx.size - 1 - back s x < x.tx.size) : s[x.hi.toNat - 1 - back s x] ≠ x.tx[x.tx.size - 1 - back s x] := by
  have hm := mid_len s x hg
  have hs : x.tx.data.toList.length = x.tx.size := rfl
  have h := cpl_max (mid s x).reverse (x.tx.data.toList.drop (front s x)).reverse (by rw [List.length_reverse]; unfold back at h1; omega) (by rw [List.length_reverse, List.length_drop]; unfold back at h2; omega)
  intro e
  refine h ?_
  show (mid s x).reverse[back s x]? = (x.tx.data.toList.drop (front s x)).reverse[back s x]?
  rw [mid_at s x hg _ (by omega) h3, tail_at x _ _ (by omega) h4, e]
end Go.Proofs.Ytigmakdfladjnaa
