/-
  Layer 5: rows of digits, plain.
-/
import Derived.Test.YtakbhbhikknhkaaC
namespace Go.Proofs.Ytakbhbhikknhkaa
open Go.ChangeShapes Go.WideShapes Go.ChangeAt Go.RowKit

/-- is a text a row of a base? -/
def row (base : Nat) : List UInt8 → Bool
  | [] => false
  | [c] => dig base c
  | c :: d :: t => dig base c && (if d = 95 then row base t else row base (d :: t))

theorem dig_bar {base : Nat} (h : base ≤ 16) : dig base 95 = false := by
  unfold dig; rw [decide_eq_false_iff_not]; have : val 95 = 99 := by decide
  omega

/-- what of a text is still to be looked at, ahead of a byte -/
def rest (base : Nat) (l : List UInt8) : Nat → Bool
  | 0 => row base l
  | k + 1 => if l[k]? = some 95 then row base (l.drop (k + 1)) else row base (l.drop k)

theorem rest_digit {base : Nat} {l : List UInt8} {k : Nat} {c : UInt8} (hb : base ≤ 16) (hc : l[k]? = some c) (hd : dig base c = true) (hp : ∀ j x, k = j + 1 → l[j]? = some x → x = 95 ∨ dig base x = true) :
    rest base l k = rest base l (k + 1) := by
  have hn : c ≠ 95 := fun h => by rw [h, dig_bar hb] at hd; cases hd
  have e : rest base l (k + 1) = row base (l.drop k) := by
    show (if l[k]? = some 95 then row base (l.drop (k + 1)) else row base (l.drop k)) = _
    rw [if_neg (by rw [hc]; simpa using hn)]
  rw [e]
  match k with
  | 0 => rfl
  | j + 1 =>
    show (if l[j]? = some 95 then row base (l.drop (j + 1)) else row base (l.drop j)) = _
    by_cases h : l[j]? = some 95
    · rw [if_pos h]
    · rw [if_neg h]
      obtain ⟨hk, e1⟩ := List.getElem?_eq_some_iff.1 hc
      have hj : j < l.length := by omega
      rw [List.drop_eq_getElem_cons hj, List.drop_eq_getElem_cons hk, e1]
      rcases hp j l[j] rfl (List.getElem?_eq_getElem hj) with h1 | h1
      · exact absurd (by rw [List.getElem?_eq_getElem hj, h1]) h
      · simp [row, h1, hn]

theorem rest_bar {base : Nat} {l : List UInt8} {k : Nat} {x : UInt8} (hc : l[k + 1]? = some 95) (hx : l[k]? = some x) (hn : x ≠ 95) (hd : dig base x = true) :
    rest base l (k + 1) = rest base l (k + 2) := by
  have e : rest base l (k + 2) = row base (l.drop (k + 2)) := by
    show (if l[k + 1]? = some 95 then row base (l.drop (k + 2)) else row base (l.drop (k + 1))) = _
    rw [if_pos hc]
  have e2 : rest base l (k + 1) = row base (l.drop k) := by
    show (if l[k]? = some 95 then row base (l.drop (k + 1)) else row base (l.drop k)) = _
    rw [if_neg (by rw [hx]; simpa using hn)]
  rw [e, e2]
  obtain ⟨hk, e1⟩ := List.getElem?_eq_some_iff.1 hc
  obtain ⟨hj, e3⟩ := List.getElem?_eq_some_iff.1 hx
  rw [List.drop_eq_getElem_cons hj, List.drop_eq_getElem_cons hk, e1, e3]
  simp [row, hd]

theorem rest_none {base : Nat} {l : List UInt8} {k : Nat} {c : UInt8} (hc : l[k]? = some c) (hd : dig base c = false) (hp : c = 95 → ∃ j, k = j + 1 ∧ l[j]? = some 95) :
    rest base l k = false := by
  have key : row base (l.drop k) = false := by
    obtain ⟨hk, e1⟩ := List.getElem?_eq_some_iff.1 hc
    rw [List.drop_eq_getElem_cons hk, e1]
    cases l.drop (k + 1) with
    | nil => simp [row, hd]
    | cons d t => simp [row, hd]
  match k with
  | 0 => exact key
  | j + 1 =>
    show (if l[j]? = some 95 then row base (l.drop (j + 1)) else row base (l.drop j)) = _
    by_cases h : l[j]? = some 95
    · rw [if_pos h]; exact key
    · rw [if_neg h]
      obtain ⟨hk, e1⟩ := List.getElem?_eq_some_iff.1 hc
      have hj : j < l.length := by omega
      have hn : c ≠ 95 := fun h1 => by
        obtain ⟨i, e, h2⟩ := hp h1
        obtain rfl : i = j := by omega
        exact h h2
      rw [List.drop_eq_getElem_cons hk, e1] at key
      rw [List.drop_eq_getElem_cons hj, List.drop_eq_getElem_cons hk, e1]
      simp [row, hn, key]

theorem rest_end {base : Nat} {l : List UInt8} {k : Nat} {c : UInt8} (hb : base ≤ 16) (hl : l.length = k + 1) (hc : l[k]? = some c) (hd : dig base c = true) : rest base l (k + 1) = true := by
  have hn : c ≠ 95 := fun h => by rw [h, dig_bar hb] at hd; cases hd
  show (if l[k]? = some 95 then row base (l.drop (k + 1)) else row base (l.drop k)) = _
  rw [if_neg (by rw [hc]; simpa using hn)]
  obtain ⟨hk, e1⟩ := List.getElem?_eq_some_iff.1 hc
  rw [List.drop_eq_getElem_cons hk, e1, List.drop_eq_nil_of_le (by omega)]
  simp [row, hd]

/-- a row begins and ends with a digit -/
theorem row_head {base : Nat} {l : List UInt8} (h : row base l = true) : ∃ c, l[0]? = some c ∧ dig base c = true := by
  match l, h with
  | [c], h => exact ⟨c, rfl, h⟩
  | c :: d :: t, h => exact ⟨c, rfl, by simp [row] at h; exact h.1⟩
theorem row_last {base : Nat} : ∀ {l : List UInt8}, row base l = true → ∃ c, l[l.length - 1]? = some c ∧ dig base c = true
  | [c], h => ⟨c, rfl, h⟩
  | c :: d :: t, h => by
    simp [row] at h
    by_cases hd : d = 95
    · rw [if_pos hd] at h
      obtain ⟨x, e, h2⟩ := row_last h.2
      refine ⟨x, ?_, h2⟩
      have : 0 < t.length := by cases t with | nil => simp at e | cons => simp
      rw [show (c :: d :: t).length - 1 = (t.length - 1) + 2 by simp; omega]
      simpa using e
    · rw [if_neg hd] at h
      obtain ⟨x, e, h2⟩ := row_last h.2
      refine ⟨x, ?_, h2⟩
      rw [show (c :: d :: t).length - 1 = ((d :: t).length - 1) + 1 by simp]
      rw [List.getElem?_cons_succ]; exact e
termination_by l => l.length
end Go.Proofs.Ytakbhbhikknhkaa
