/-
  Texts J K L M N of an earlier seat, under this one's numbers.
-/
import Derived.Test.YtoffjpgobhcipaaDoorNa
import Derived.Deep.LoopGhost
import Derived.Deep.CutRange
import Derived.Deep.DeepCutAuto
set_option maxRecDepth 100000
/-
  Layer 5: contract of the document's Int.
-/
namespace Go.Proofs.YtoffjpgobhcipaaDoor.Num
open Go.ChangeShapes Go.WideShapes Go.ChangeAt Go.RowKit

/-- is a text a whole number? -/
def whole? (l : List UInt8) : Bool :=
  decide (l = [48]) || (row 10 l && !decide (l.head? = some 48)) || (decide (l.head? = some 48) && under 8 (l.drop 1)) ||
    (if head? 98 66 l then under 2 (l.drop 2) else if head? 111 79 l then under 8 (l.drop 2) else head? 120 88 l && under 16 (l.drop 2))
theorem under_nil (base : Nat) : under base [] = false := rfl
theorem list_is (b : ByteArray) : b.toList = b.data.toList := by
  unfold ByteArray.toList
  rw [ByteArray.toList_loop_eq b b.size 0 [] (by omega) (by omega)]; simp
theorem head_first {a b : UInt8} {l : List UInt8} (h : l.head? ≠ some 48) : head? a b l = false := by
  match l with
  | [] => rfl
  | [c] => rfl
  | c :: d :: t =>
    have : c ≠ 48 := fun e => h (by rw [e]; rfl)
    simp [head?, this]

end Go.Proofs.YtoffjpgobhcipaaDoor.Num

/-
  Layer 5: contract of the document's Float.
-/
namespace Go.Proofs.YtoffjpgobhcipaaDoor.Num
open Go.ChangeShapes Go.WideShapes Go.ChangeAt Go.RowKit

/-- is there a cut of a text of which something holds? -/
def anyCut (f : List UInt8 → List UInt8 → Bool) (l : List UInt8) : Bool := (List.range (l.length + 1)).any fun i => f (l.take i) (l.drop i)
theorem anyCut_yes {f : List UInt8 → List UInt8 → Bool} {l : List UInt8} {k : Nat} (hk : k ≤ l.length) (h : f (l.take k) (l.drop k) = true) : anyCut f l = true := by
  unfold anyCut
  rw [List.any_eq_true]
  exact ⟨k, List.mem_range.2 (by omega), h⟩
theorem anyCut_no {f : List UInt8 → List UInt8 → Bool} {l : List UInt8} (h : ∀ j, j < l.length + 1 → f (l.take j) (l.drop j) = false) : anyCut f l = false := by
  unfold anyCut
  rw [List.any_eq_false]
  intro k hk
  rw [h k (List.mem_range.1 hk)]; decide
def hexCut (a b : List UInt8) : Bool := power 112 80 b && (points 16 true a || under 16 a)
def decCut (a b : List UInt8) : Bool := power 101 69 b && (points 10 false a || row 10 a)
/-- is a text a broken number? -/
def broken? (l : List UInt8) : Bool := if head? 120 88 l then anyCut hexCut (l.drop 2) else points 10 false l || anyCut decCut l

theorem extract_front (s : ByteArray) (k : Nat) : (s.extract 0 k).data.toList = s.data.toList.take k := by rw [extract_take]; simp

end Go.Proofs.YtoffjpgobhcipaaDoor.Num

/-
  Layer 5: contract of the document's Kind.
-/
namespace Go.Proofs.YtoffjpgobhcipaaDoor.Num
open Go.ChangeShapes Go.WideShapes Go.ChangeAt Go.RowKit

/-- a text's kind as the document has it -/
def kindOf (l : List UInt8) : Nat :=
  if whole? l then 3 else if broken? l then 4 else if 1 < l.length ∧ l.getLast? = some 105 ∧ (whole? l.dropLast = true ∨ broken? l.dropLast = true ∨ row 10 l.dropLast = true) then 5 else 0
theorem last_of (s : ByteArray) (n : Nat) (hn : s.size = n + 1) (h : n < s.size) : s.data.toList.getLast? = some s[n] := by
  have hl : s.data.toList.length = s.size := by simp
  rw [List.getLast?_eq_getElem?, hl, hn, Nat.add_sub_cancel]; exact at_of s n h
theorem droplast_of (s : ByteArray) (n : Nat) (hn : s.size = n + 1) : (s.extract 0 n).data.toList = s.data.toList.dropLast := by
  have hl : s.data.toList.length = s.size := by simp
  rw [extract_front, List.dropLast_eq_take, hl, hn, Nat.add_sub_cancel]

end Go.Proofs.YtoffjpgobhcipaaDoor.Num

/-
  Layer 5: where a run ends, plain; contract of the document's Run.
-/
namespace Go.Proofs.YtoffjpgobhcipaaDoor.Num
open Go.ChangeShapes Go.WideShapes Go.ChangeAt Go.RowKit

/-- does a number begin a text? -/
def starts : List UInt8 → Bool
  | [] => false
  | c :: t => dig 10 c || (decide (c = 46) && (match t with | [] => false | d :: _ => dig 10 d))
def power? (hex : Bool) (d : UInt8) : Bool := if hex then decide (d = 112) || decide (d = 80) else decide (d = 101) || decide (d = 69)
/-- does a run go on at a byte? -/
def goesOn (hex : Bool) (t : List UInt8) : Nat → Bool
  | 0 => match t[0]? with | some c => tail? c | none => false
  | j + 1 => match t[j + 1]?, t[j]? with | some c, some d => tail? c || ((decide (c = 43) || decide (c = 45)) && power? hex d) | _, _ => false
def runFrom (f : Nat → Bool) : Nat → Nat → Nat
  | 0, i => i
  | n + 1, i => if f i then runFrom f n (i + 1) else i
/-- how long the run is that begins a text -/
def runLen (t : List UInt8) : Nat := runFrom (goesOn (head? 120 88 t) t) t.length 0
theorem runFrom_le (f : Nat → Bool) : ∀ n i, runFrom f n i ≤ i + n
  | 0, i => Nat.le_refl _
  | n + 1, i => by
    unfold runFrom
    split
    · have := runFrom_le f n (i + 1); omega
    · omega
theorem runLen_le (t : List UInt8) : runLen t ≤ t.length := by
  have := runFrom_le (goesOn (head? 120 88 t) t) t.length 0
  unfold runLen; omega
theorem tail_cases {c : UInt8} (h : tail? c = true) : (48 ≤ c.toNat ∧ c.toNat ≤ 57) ∨ (97 ≤ c.toNat ∧ c.toNat ≤ 122) ∨ (65 ≤ c.toNat ∧ c.toNat ≤ 90) ∨ c.toNat = 95 ∨ c.toNat = 46 := by
  unfold tail? at h
  simp at h
  omega
theorem tail_no {c : UInt8} (h : tail? c = false) : (c.toNat < 48 ∨ 57 < c.toNat) ∧ (c.toNat < 97 ∨ 122 < c.toNat) ∧ (c.toNat < 65 ∨ 90 < c.toNat) ∧ c.toNat ≠ 95 ∧ c.toNat ≠ 46 := by
  unfold tail? at h
  simp at h
  omega
theorem dig_tail {c : UInt8} (h : dig 10 c = true) : tail? c = true := by
  unfold dig val at h
  rw [decide_eq_true_eq] at h
  unfold tail?
  simp
  split at h
  · omega
  · split at h
    · omega
    · split at h <;> omega
theorem starts_at (s : ByteArray) (a : Nat) (ha : a < s.size) : starts (s.data.toList.drop a) = (dig 10 s[a] || (decide (s[a] = 46) && (if h : a + 1 < s.size then dig 10 s[a + 1] else false))) := by
  have hl : s.data.toList.length = s.size := by simp
  rw [List.drop_eq_getElem_cons (by omega)]
  have e0 : s.data.toList[a]'(by omega) = s[a] := by simp [ByteArray.getElem_eq_getElem_data]
  rw [e0]
  by_cases h : a + 1 < s.size
  · rw [List.drop_eq_getElem_cons (i := a + 1) (by omega), dif_pos h]
    have e1 : s.data.toList[a + 1]'(by omega) = s[a + 1] := by simp [ByteArray.getElem_eq_getElem_data]
    rw [e1]; rfl
  · rw [List.drop_eq_nil_of_le (by omega), dif_neg h]; rfl

end Go.Proofs.YtoffjpgobhcipaaDoor.Num

/-
  Layer 5: contract of the document's Run where a number begins.
-/
namespace Go.Proofs.YtoffjpgobhcipaaDoor.Num
open Go.ChangeShapes Go.WideShapes Go.ChangeAt Go.RowKit

theorem drop_at (s : ByteArray) (a k : Nat) (h1 : a ≤ k) (h2 : k < s.size) : (s.data.toList.drop a)[k - a]? = some s[k] := by
  rw [List.getElem?_drop, show a + (k - a) = k by omega]; exact at_of s k h2
theorem goes_tail {hex : Bool} {t : List UInt8} {j : Nat} {c : UInt8} (h : t[j]? = some c) (hc : tail? c = true) : goesOn hex t j = true := by
  cases j with
  | zero => simp only [goesOn, h, hc]
  | succ j =>
    have hj : j < t.length := by have := (List.getElem?_eq_some_iff.1 h).1; omega
    simp only [goesOn, h, List.getElem?_eq_getElem hj, hc, Bool.true_or]
theorem goes_first {hex : Bool} {t : List UInt8} {c : UInt8} (h : t[0]? = some c) (hc : tail? c = false) : goesOn hex t 0 = false := by
  simp only [goesOn, h, hc]
theorem goes_sign {hex : Bool} {t : List UInt8} {j : Nat} {c d : UInt8} (h : t[j + 1]? = some c) (hd : t[j]? = some d) (hc : tail? c = false) : goesOn hex t (j + 1) = ((decide (c = 43) || decide (c = 45)) && power? hex d) := by
  simp only [goesOn, h, hd, hc, Bool.false_or]

end Go.Proofs.YtoffjpgobhcipaaDoor.Num
