/-
  Layer 7: plain: the lexeme at the head of a text.
-/
import Derived.Test.YtbkmlldhjchhjaaGreatQg
import Derived.Test.YtbkmlldhjchhjaaGreatNe
import Derived.Lib.Index
namespace Go.Proofs.YtbkmlldhjchhjaaGreat
open Go.ChangeShapes Go.WideShapes Go.ChangeAt Go.RowKit
open Go.Lib (decodeL)

def isBlank (r : Int) : Bool := decide (r = 9 ∨ r = 10 ∨ r = 13 ∨ r = 32)
def isPart (r : Int) : Bool := inside letters r || inside digits r
theorem spanAt_rel (p : Int → Bool) (l : List UInt8) : ∀ f i a, spanAt p l f (a + i) = a + spanAt p (l.drop a) f i
  | 0, i, a => rfl
  | f + 1, i, a => by
    have hd : (l.drop a).drop i = l.drop (a + i) := List.drop_drop ..
    unfold spanAt
    rw [hd, List.length_drop]
    by_cases h : a + i < l.length
    · rw [if_pos h, if_pos (show i < l.length - a by omega)]
      split
      · rfl
      · rw [Nat.add_assoc]; exact spanAt_rel p l f _ a
    · rw [if_neg h, if_neg (show ¬ i < l.length - a by omega)]
/-- how many bytes the characters of a sort have at the head of a text -/
def spanLen (p : Int → Bool) (t : List UInt8) : Nat := spanAt p t t.length 0
theorem spanAt_len (p : Int → Bool) (l : List UInt8) (f a : Nat) (hf : l.length - a ≤ f) : spanAt p l f a = a + spanLen p (l.drop a) := by
  have h := spanAt_rel p l f 0 a
  rw [Nat.add_zero] at h
  rw [h]
  unfold spanLen
  rw [spanAt_fuel p (l.drop a) f (l.drop a).length 0 (by rw [List.length_drop]; omega) (by omega)]
theorem spanLen_le (p : Int → Bool) (t : List UInt8) : spanLen p t ≤ t.length := (spanAt_le p t t.length 0 (Nat.zero_le _)).2
/-- the bytes ahead of the next byte 10 -/
def lineLen : List UInt8 → Nat
  | [] => 0
  | c :: t => if c = 10 then 0 else lineLen t + 1
theorem lineLen_le : ∀ t, lineLen t ≤ t.length
  | [] => Nat.le_refl _
  | c :: t => by
    unfold lineLen
    have := lineLen_le t
    split
    · omega
    · rw [List.length_cons]; omega
theorem line_index : ∀ t : List UInt8, Lib.indexByte t 10 = if lineLen t = t.length then -1 else (lineLen t : Int)
  | [] => rfl
  | c :: t => by
    have ih := line_index t
    unfold Lib.indexByte lineLen
    by_cases hc : c = 10
    · have : (c == 10) = true := by simpa using hc
      rw [if_pos this, if_pos hc, if_neg (by simp)]; rfl
    · have : ¬ ((c == 10) = true) := by simpa using hc
      rw [if_neg this, if_neg hc, ih]
      by_cases he : lineLen t = t.length
      · rw [if_pos he, if_pos (by rfl), if_pos (by rw [List.length_cons, he])]
      · rw [if_neg he, if_neg (by simp), if_neg (by rw [List.length_cons]; omega)]
        omega
/-- the bytes ahead of the next */ -/
def blockLen : List UInt8 → Option Nat
  | [] => none
  | c :: t => if [42, 47].isPrefixOf (c :: t) = true then some 0 else (blockLen t).map (· + 1)
theorem blockLen_le : ∀ (t : List UInt8) (j : Nat), blockLen t = some j → j + 2 ≤ t.length
  | [], j, h => by cases h
  | c :: t, j, h => by
    unfold blockLen at h
    split at h
    · rename_i hp
      cases h
      cases t with
      | nil => simp [List.isPrefixOf] at hp
      | cons d t => simp
    · cases hb : blockLen t with
      | none => rw [hb] at h; cases h
      | some i =>
        rw [hb] at h
        cases h
        have := blockLen_le t i hb
        show i + 1 + 2 ≤ _
        rw [List.length_cons]; omega
theorem block_index : ∀ t : List UInt8, Lib.index t [42, 47] = (match blockLen t with | some j => (j : Int) | none => -1)
  | [] => rfl
  | c :: t => by
    have ih := block_index t
    unfold Lib.index blockLen
    split
    · rfl
    · rw [ih]
      cases blockLen t with
      | none => rfl
      | some j =>
        show (if ((j : Int) == -1) = true then _ else _) = _
        rw [if_neg (by simp)]; rfl
def signs : List (List UInt8) := [[43], [45], [42], [47], [37], [38], [124], [94], [60, 60], [62, 62], [38, 94], [43, 61], [45, 61], [42, 61], [47, 61], [37, 61], [38, 61], [124, 61], [94, 61], [60, 60, 61], [62, 62, 61], [38, 94, 61], [38, 38], [124, 124], [60, 45], [43, 43], [45, 45], [61, 61], [60], [62], [61], [33], [126], [33, 61], [60, 61], [62, 61], [58, 61], [46, 46, 46], [40], [41], [91], [93], [123], [125], [44], [46], [58]]
def isSign (x : List UInt8) : Bool := signs.contains x
/-- the longest sign at the head of a text, of so many bytes at most -/
def signAt (t : List UInt8) : Nat → Nat
  | 0 => 0
  | n + 1 => if isSign (t.take (n + 1)) = true then n + 1 else signAt t n
def signLen (t : List UInt8) : Nat := signAt t (min 3 t.length)
theorem signAt_le (t : List UInt8) : ∀ n, signAt t n ≤ n
  | 0 => Nat.le_refl _
  | n + 1 => by
    unfold signAt
    split
    · exact Nat.le_refl _
    · have := signAt_le t n; omega
/-- what is read in marks, as a lexeme -/
def lexQ : Option (Nat × List UInt8 × Nat) → Nat × Nat
  | some (K, _, n) => (K, n)
  | none => (0, 0)
/-- the lexeme at the head of a text: its kind, how many bytes it has; 0: none -/
def lexL (t : List UInt8) : Nat × Nat :=
  if chr t = 65279 then (10, wide t)
  else if isBlank (chr t) = true then (10, spanLen isBlank t)
  else if [47, 47].isPrefixOf t = true then (11, lineLen t)
  else if [47, 42].isPrefixOf t = true then (match blockLen (t.drop 2) with | some j => (12, j + 4) | none => (0, 0))
  else if inside letters (chr t) = true then (if isWord (t.take (spanLen isPart t)) = true then 2 else 1, spanLen isPart t)
  else if Num.starts t = true then (if Num.kindOf (t.take (Num.runLen t)) = 0 then (0, 0) else (Num.kindOf (t.take (Num.runLen t)), Num.runLen t))
  else if markAt t 0 = true then lexQ (readOf t 0)
  else if t.head? = some 59 then (9, 1)
  else if signLen t = 0 then (0, 0) else (8, signLen t)
/-- the lexeme at a place: its kind, where it ends -/
def lexV (l : List UInt8) (a : Nat) : Nat × Nat := if (lexL (l.drop a)).1 = 0 then (0, 0) else ((lexL (l.drop a)).1, a + (lexL (l.drop a)).2)
end Go.Proofs.YtbkmlldhjchhjaaGreat
