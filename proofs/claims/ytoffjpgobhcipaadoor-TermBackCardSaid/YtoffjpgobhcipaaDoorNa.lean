/-
  Texts A B C D E F G H I of an earlier seat, under this one's numbers.
-/
import Derived.Test.YtoffjpgobhcipaaDoorRows
import Derived.WalkKit
import Derived.ProofKit
import Derived.OpenShut
import Derived.LoopTactic
import Derived.Lib.Hide
import Derived.Outline
import Derived.WalkSmall
import Derived.BigCall
import Derived.BigGuard
import Derived.Lib.Bytealg
import Derived.Laws.Strings
set_option maxRecDepth 100000
/-
  Layer 5: digits; contracts of number.value, number.inRun and of the document's digit, headed.
-/
namespace Go.Proofs.YtoffjpgobhcipaaDoor.Num
open Go.ChangeShapes Go.WideShapes Go.ChangeAt Go.RowKit
theorem ret_bool {a b : Bool} (h : a = b) : Ending.returned (.bool a) = .returned (.bool b) := by rw [h]
theorem ret_int {k : IntKind} {a b : Int} (h : a = b) : Ending.returned (.int k a) = .returned (.int k b) := by rw [h]
theorem below_chain {a b c : World} (h : Below a.heap.size a b) (k : Below b.heap.size b c) : Below a.heap.size a c := h.trans (k.mono h.size)

/-- what a byte says as a digit -/
def val (b : UInt8) : Nat := if 48 ≤ b.toNat ∧ b.toNat ≤ 57 then b.toNat - 48 else if 97 ≤ b.toNat ∧ b.toNat ≤ 102 then b.toNat - 87 else if 65 ≤ b.toNat ∧ b.toNat ≤ 70 then b.toNat - 55 else 99
/-- is a byte a digit of a base? -/
def dig (base : Nat) (b : UInt8) : Bool := decide (val b < base)
def tail? (b : UInt8) : Bool := (decide (48 ≤ b.toNat) && decide (b.toNat ≤ 57)) || (decide (97 ≤ b.toNat) && decide (b.toNat ≤ 122)) || (decide (65 ≤ b.toNat) && decide (b.toNat ≤ 90)) || decide (b.toNat = 95) || decide (b.toNat = 46)

set_option maxHeartbeats 1000000 in
theorem value_any (b : UInt8) (w : World) :
    Calls Tryd.prog 96 #[.int .u8 b.toNat] w fun e w' => e = .returned (.int .i64 (val b)) ∧ w' = w := by
  have hb : b.toNat < 256 := b.toNat_lt
  unfold val
  generalize b.toNat = n at hb ⊢
  by_cases h1 : 48 ≤ n ∧ n ≤ 57
  · rw [if_pos h1]
    obtain ⟨h1, h2⟩ := h1
    go_enter Tryd.func96, Tryd.ntmps96
    go_wp2
    go_ret
    exact ⟨ret_int (by omega), rfl⟩
  · rw [if_neg h1]
    by_cases h2 : 97 ≤ n ∧ n ≤ 102
    · rw [if_pos h2]
      obtain ⟨h2, h3⟩ := h2
      have h4 : ¬ (n : Int) ≤ 57 := by omega
      go_enter Tryd.func96, Tryd.ntmps96
      go_wp2
      go_ret
      exact ⟨ret_int (by omega), rfl⟩
    · rw [if_neg h2]
      by_cases h3 : 65 ≤ n ∧ n ≤ 70
      · rw [if_pos h3]
        obtain ⟨h3, h5⟩ := h3
        have h4 : ¬ (n : Int) ≤ 57 := by omega
        have h6 : ¬ 97 ≤ (n : Int) := by omega
        go_enter Tryd.func96, Tryd.ntmps96
        go_wp2
        go_ret
        exact ⟨ret_int (by omega), rfl⟩
      · rw [if_neg h3]
        go_enter Tryd.func96, Tryd.ntmps96
        go_wp2
        all_goals (first | (exfalso; omega) | (go_ret; exact ⟨ret_int (by omega), rfl⟩))
end Go.Proofs.YtoffjpgobhcipaaDoor.Num

/-
  Layer 5: contracts of number.inRun and of the document's digit and headed.
-/
namespace Go.Proofs.YtoffjpgobhcipaaDoor.Num
open Go.ChangeShapes Go.WideShapes Go.ChangeAt Go.RowKit

end Go.Proofs.YtoffjpgobhcipaaDoor.Num

/-
  Layer 5: contract of the document's digit.
-/
namespace Go.Proofs.YtoffjpgobhcipaaDoor.Num
open Go.ChangeShapes Go.WideShapes Go.ChangeAt Go.RowKit

def smalls : ByteArray := ⟨#[48, 49, 50, 51, 52, 53, 54, 55, 56, 57, 97, 98, 99, 100, 101, 102]⟩
def bigs : ByteArray := ⟨#[48, 49, 50, 51, 52, 53, 54, 55, 56, 57, 65, 66, 67, 68, 69, 70]⟩
theorem digit_table : ∀ c : Fin 256, ∀ i : Fin 16, ((smalls.data[i.val]? = some (UInt8.ofNat c.val) ∨ bigs.data[i.val]? = some (UInt8.ofNat c.val)) ↔ val (UInt8.ofNat c.val) = i.val) := by decide +kernel
theorem digit_at (c : UInt8) (i : Nat) (h : i < 16) (h1 : i < smalls.size) (h2 : i < bigs.size) : (smalls[i] = c ∨ bigs[i] = c) ↔ val c = i := by
  have := digit_table ⟨c.toNat, c.toNat_lt⟩ ⟨i, h⟩
  rw [show UInt8.ofNat c.toNat = c by simp] at this
  rw [← this]
  have e1 : smalls.data[i]? = some smalls[i] := Array.getElem?_eq_getElem h1
  have e2 : bigs.data[i]? = some bigs[i] := Array.getElem?_eq_getElem h2
  rw [e1, e2]; simp
end Go.Proofs.YtoffjpgobhcipaaDoor.Num

/-
  Layer 5: rows of digits, plain.
-/
namespace Go.Proofs.YtoffjpgobhcipaaDoor.Num
open Go.ChangeShapes Go.WideShapes Go.ChangeAt Go.RowKit

/-- is a text a row of a base? -/
def row (base : Nat) : List UInt8 → Bool
  | [] => false
  | [c] => dig base c
  | c :: d :: t => dig base c && (if d = 95 then row base t else row base (d :: t))

theorem dig_bar {base : Nat} (h : base ≤ 16) : dig base 95 = false := by
  unfold dig; rw [decide_eq_false_iff_not]; have : val 95 = 99 := by decide
  omega

/-- what of a text is still to be looked at, ahead of a byte -/
def rest (base : Nat) (l : List UInt8) : Nat → Bool
  | 0 => row base l
  | k + 1 => if l[k]? = some 95 then row base (l.drop (k + 1)) else row base (l.drop k)

theorem rest_digit {base : Nat} {l : List UInt8} {k : Nat} {c : UInt8} (hb : base ≤ 16) (hc : l[k]? = some c) (hd : dig base c = true) (hp : ∀ j x, k = j + 1 → l[j]? = some x → x = 95 ∨ dig base x = true) :
    rest base l k = rest base l (k + 1) := by
  have hn : c ≠ 95 := fun h => by rw [h, dig_bar hb] at hd; cases hd
  have e : rest base l (k + 1) = row base (l.drop k) := by
    show (if l[k]? = some 95 then row base (l.drop (k + 1)) else row base (l.drop k)) = _
    rw [if_neg (by rw [hc]; simpa using hn)]
  rw [e]
  match k with
  | 0 => rfl
  | j + 1 =>
    show (if l[j]? = some 95 then row base (l.drop (j + 1)) else row base (l.drop j)) = _
    by_cases h : l[j]? = some 95
    · rw [if_pos h]
    · rw [if_neg h]
      obtain ⟨hk, e1⟩ := List.getElem?_eq_some_iff.1 hc
      have hj : j < l.length := by omega
      rw [List.drop_eq_getElem_cons hj, List.drop_eq_getElem_cons hk, e1]
      rcases hp j l[j] rfl (List.getElem?_eq_getElem hj) with h1 | h1
      · exact absurd (by rw [List.getElem?_eq_getElem hj, h1]) h
      · simp [row, h1, hn]

theorem rest_bar {base : Nat} {l : List UInt8} {k : Nat} {x : UInt8} (hc : l[k + 1]? = some 95) (hx : l[k]? = some x) (hn : x ≠ 95) (hd : dig base x = true) :
    rest base l (k + 1) = rest base l (k + 2) := by
  have e : rest base l (k + 2) = row base (l.drop (k + 2)) := by
    show (if l[k + 1]? = some 95 then row base (l.drop (k + 2)) else row base (l.drop (k + 1))) = _
    rw [if_pos hc]
  have e2 : rest base l (k + 1) = row base (l.drop k) := by
    show (if l[k]? = some 95 then row base (l.drop (k + 1)) else row base (l.drop k)) = _
    rw [if_neg (by rw [hx]; simpa using hn)]
  rw [e, e2]
  obtain ⟨hk, e1⟩ := List.getElem?_eq_some_iff.1 hc
  obtain ⟨hj, e3⟩ := List.getElem?_eq_some_iff.1 hx
  rw [List.drop_eq_getElem_cons hj, List.drop_eq_getElem_cons hk, e1, e3]
  simp [row, hd]

theorem rest_none {base : Nat} {l : List UInt8} {k : Nat} {c : UInt8} (hc : l[k]? = some c) (hd : dig base c = false) (hp : c = 95 → ∃ j, k = j + 1 ∧ l[j]? = some 95) :
    rest base l k = false := by
  have key : row base (l.drop k) = false := by
    obtain ⟨hk, e1⟩ := List.getElem?_eq_some_iff.1 hc
    rw [List.drop_eq_getElem_cons hk, e1]
    cases l.drop (k + 1) with
    | nil => simp [row, hd]
    | cons d t => simp [row, hd]
  match k with
  | 0 => exact key
  | j + 1 =>
    show (if l[j]? = some 95 then row base (l.drop (j + 1)) else row base (l.drop j)) = _
    by_cases h : l[j]? = some 95
    · rw [if_pos h]; exact key
    · rw [if_neg h]
      obtain ⟨hk, e1⟩ := List.getElem?_eq_some_iff.1 hc
      have hj : j < l.length := by omega
      have hn : c ≠ 95 := fun h1 => by
        obtain ⟨i, e, h2⟩ := hp h1
        obtain rfl : i = j := by omega
        exact h h2
      rw [List.drop_eq_getElem_cons hk, e1] at key
      rw [List.drop_eq_getElem_cons hj, List.drop_eq_getElem_cons hk, e1]
      simp [row, hn, key]

theorem rest_end {base : Nat} {l : List UInt8} {k : Nat} {c : UInt8} (hb : base ≤ 16) (hl : l.length = k + 1) (hc : l[k]? = some c) (hd : dig base c = true) : rest base l (k + 1) = true := by
  have hn : c ≠ 95 := fun h => by rw [h, dig_bar hb] at hd; cases hd
  show (if l[k]? = some 95 then row base (l.drop (k + 1)) else row base (l.drop k)) = _
  rw [if_neg (by rw [hc]; simpa using hn)]
  obtain ⟨hk, e1⟩ := List.getElem?_eq_some_iff.1 hc
  rw [List.drop_eq_getElem_cons hk, e1, List.drop_eq_nil_of_le (by omega)]
  simp [row, hd]

/-- a row begins and ends with a digit -/
theorem row_head {base : Nat} {l : List UInt8} (h : row base l = true) : ∃ c, l[0]? = some c ∧ dig base c = true := by
  match l, h with
  | [c], h => exact ⟨c, rfl, h⟩
  | c :: d :: t, h => exact ⟨c, rfl, by simp [row] at h; exact h.1⟩
theorem row_last {base : Nat} : ∀ {l : List UInt8}, row base l = true → ∃ c, l[l.length - 1]? = some c ∧ dig base c = true
  | [c], h => ⟨c, rfl, h⟩
  | c :: d :: t, h => by
    simp [row] at h
    by_cases hd : d = 95
    · rw [if_pos hd] at h
      obtain ⟨x, e, h2⟩ := row_last h.2
      refine ⟨x, ?_, h2⟩
      have : 0 < t.length := by cases t with | nil => simp at e | cons => simp
      rw [show (c :: d :: t).length - 1 = (t.length - 1) + 2 by simp; omega]
      simpa using e
    · rw [if_neg hd] at h
      obtain ⟨x, e, h2⟩ := row_last h.2
      refine ⟨x, ?_, h2⟩
      rw [show (c :: d :: t).length - 1 = ((d :: t).length - 1) + 1 by simp]
      rw [List.getElem?_cons_succ]; exact e
termination_by l => l.length
end Go.Proofs.YtoffjpgobhcipaaDoor.Num

/-
  Layer 5: contract of the document's Row.
-/
namespace Go.Proofs.YtoffjpgobhcipaaDoor.Num
open Go.ChangeShapes Go.WideShapes Go.ChangeAt Go.RowKit

theorem at_of (s : ByteArray) (k : Nat) (h : k < s.size) : s.data.toList[k]? = some s[k] := by
  rw [List.getElem?_eq_getElem (by simpa using h)]; simp [ByteArray.getElem_eq_getElem_data]
end Go.Proofs.YtoffjpgobhcipaaDoor.Num

/-
  Layer 5: contracts of the document's headed, under and Power.
-/
namespace Go.Proofs.YtoffjpgobhcipaaDoor.Num
open Go.ChangeShapes Go.WideShapes Go.ChangeAt Go.RowKit

/-- does a text begin with 0 and one of two letters? -/
def head? (small big : UInt8) : List UInt8 → Bool
  | c :: d :: _ => decide (c = 48) && (decide (d = small) || decide (d = big))
  | _ => false
theorem bytes_eq (a b : UInt8) : ((a.toNat : Int) == (b.toNat : Int)) = decide (a = b) := by
  rw [Bool.eq_iff_iff, beq_iff_eq, decide_eq_true_iff]
  exact ⟨fun h => UInt8.toNat_inj.1 (by omega), fun h => by rw [h]⟩
theorem bytes_n (a b : UInt8) (n : Int) (hn : (b.toNat : Int) = n) : ((a.toNat : Int) == n) = decide (a = b) := by
  rw [← hn]; exact bytes_eq a b
theorem two_of (s : ByteArray) (h0 : 0 < s.size) (h1 : 1 < s.size) : s.data.toList = s[0] :: s[1] :: s.data.toList.drop 2 := by
  have e0 : 0 < s.data.toList.length := by simpa using h0
  have e1 : 1 < s.data.toList.length := by simpa using h1
  conv => lhs; rw [← List.drop_zero (l := s.data.toList), List.drop_eq_getElem_cons e0, List.drop_eq_getElem_cons e1]
  simp [ByteArray.getElem_eq_getElem_data]
theorem head_short (small big : UInt8) (l : List UInt8) (h : l.length < 2) : head? small big l = false := by
  match l, h with
  | [], _ => rfl
  | [c], _ => rfl

end Go.Proofs.YtoffjpgobhcipaaDoor.Num

/-
  Layer 5: contracts of the document's under and Power.
-/
namespace Go.Proofs.YtoffjpgobhcipaaDoor.Num
open Go.ChangeShapes Go.WideShapes Go.ChangeAt Go.RowKit

theorem extract_take (s : ByteArray) (a b : Nat) : (s.extract a b).data.toList = (s.data.toList.drop a).take (b - a) := by
  simp [ByteArray.data_extract, List.extract_eq_take_drop]
theorem extract_drop (s : ByteArray) (a : Nat) : (s.extract a s.size).data.toList = s.data.toList.drop a := by
  rw [extract_take]; apply List.take_of_length_le; simp
/-- a row, or _ and a row -/
def under (base : Nat) (l : List UInt8) : Bool := row base l || (l.head? == some 95 && row base (l.drop 1))
theorem one_of (s : ByteArray) (h0 : 0 < s.size) : s.data.toList.head? = some s[0] := by
  rw [List.head?_eq_getElem?]; exact at_of s 0 h0

end Go.Proofs.YtoffjpgobhcipaaDoor.Num

/-
  Layer 5: contract of the document's Power.
-/
namespace Go.Proofs.YtoffjpgobhcipaaDoor.Num
open Go.ChangeShapes Go.WideShapes Go.ChangeAt Go.RowKit

/-- a letter, a sign or none, a row -/
def power (small big : UInt8) : List UInt8 → Bool
  | c :: d :: t => (decide (c = small) || decide (c = big)) && (if d = 43 ∨ d = 45 then row 10 t else row 10 (d :: t))
  | _ => false
theorem power_short (small big : UInt8) (l : List UInt8) (h : l.length < 2) : power small big l = false := by
  match l, h with
  | [], _ => rfl
  | [c], _ => rfl

end Go.Proofs.YtoffjpgobhcipaaDoor.Num

/-
  Layer 5: contract of the document's pointed.
-/
namespace Go.Proofs.YtoffjpgobhcipaaDoor.Num
open Go.ChangeShapes Go.WideShapes Go.ChangeAt Go.RowKit

/-- a row, a point, a row or none; or a point and a row -/
def points (base : Nat) (hex : Bool) (l : List UInt8) : Bool :=
  match l.dropWhile (fun c => decide (c ≠ 46)) with
  | [] => false
  | _ :: b => ((row base (l.takeWhile fun c => decide (c ≠ 46)) || (hex && under base (l.takeWhile fun c => decide (c ≠ 46)))) && (b.isEmpty || row base b)) || ((l.takeWhile fun c => decide (c ≠ 46)).isEmpty && row base b)
theorem while_at : ∀ (l : List UInt8) (k : Nat), l[k]? = some 46 → (∀ j, j < k → l[j]? ≠ some 46) →
    (l.takeWhile fun c => decide (c ≠ 46)) = l.take k ∧ (l.dropWhile fun c => decide (c ≠ 46)) = 46 :: l.drop (k + 1)
  | c :: t, 0, h, _ => by
    simp at h
    subst h
    simp
  | c :: t, k + 1, h, hn => by
    have hc : c ≠ 46 := fun e => hn 0 (by omega) (by simp [e])
    obtain ⟨h1, h2⟩ := while_at t k (by simpa using h) (fun j hj => by simpa using hn (j + 1) (by omega))
    rw [List.takeWhile_cons_of_pos (by simpa using hc), List.dropWhile_cons_of_pos (by simpa using hc), h1, h2]
    exact ⟨by simp, by simp⟩
theorem while_none : ∀ (l : List UInt8), (∀ j : Nat, l[j]? ≠ some 46) → (l.dropWhile fun c => decide (c ≠ 46)) = []
  | [], _ => rfl
  | c :: t, hn => by
    have hc : c ≠ 46 := fun e => hn 0 (by simp [e])
    rw [List.dropWhile_cons_of_pos (by simpa using hc)]
    exact while_none t fun j => by simpa using hn (j + 1)

theorem list_of (b : ByteArray) : b.toList.isEmpty = b.data.toList.isEmpty := by
  unfold ByteArray.toList
  rw [ByteArray.toList_loop_eq b b.size 0 [] (by omega) (by omega)]; rfl

end Go.Proofs.YtoffjpgobhcipaaDoor.Num
