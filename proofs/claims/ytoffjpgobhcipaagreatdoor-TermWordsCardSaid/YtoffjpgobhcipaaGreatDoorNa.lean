/-
  Texts A B C D E F G H I of an earlier seat, under this one's numbers.
-/
import Derived.Test.YtoffjpgobhcipaaGreatDoorRows
import Derived.WalkKit
import Derived.ProofKit
import Derived.OpenShut
import Derived.LoopTactic
import Derived.Lib.Hide
import Derived.Outline
import Derived.WalkSmall
import Derived.BigCall
import Derived.BigGuard
import Derived.Lib.Bytealg
import Derived.Laws.Strings
set_option maxRecDepth 100000
/-
  Layer 5: digits; contracts of number.value, number.inRun and of the document's digit, headed.
-/
namespace Go.Proofs.YtoffjpgobhcipaaGreatDoor.Num
open Go.ChangeShapes Go.WideShapes Go.ChangeAt Go.RowKit
theorem ret_bool {a b : Bool} (h : a = b) : Ending.returned (.bool a) = .returned (.bool b) := by rw [h]
theorem ret_int {k : IntKind} {a b : Int} (h : a = b) : Ending.returned (.int k a) = .returned (.int k b) := by rw [h]
theorem below_chain {a b c : World} (h : Below a.heap.size a b) (k : Below b.heap.size b c) : Below a.heap.size a c := h.trans (k.mono h.size)

/-- what a byte says as a digit -/
def val (b : UInt8) : Nat := if 48 ≤ b.toNat ∧ b.toNat ≤ 57 then b.toNat - 48 else if 97 ≤ b.toNat ∧ b.toNat ≤ 102 then b.toNat - 87 else if 65 ≤ b.toNat ∧ b.toNat ≤ 70 then b.toNat - 55 else 99
/-- is a byte a digit of a base? -/
def dig (base : Nat) (b : UInt8) : Bool := decide (val b < base)
def tail? (b : UInt8) : Bool := (decide (48 ≤ b.toNat) && decide (b.toNat ≤ 57)) || (decide (97 ≤ b.toNat) && decide (b.toNat ≤ 122)) || (decide (65 ≤ b.toNat) && decide (b.toNat ≤ 90)) || decide (b.toNat = 95) || decide (b.toNat = 46)

set_option maxHeartbeats 1000000 in
theorem value_any (b : UInt8) (w : World) :
    Calls Tryz.prog 139 #[.int .u8 b.toNat] w fun e w' => e = .returned (.int .i64 (val b)) ∧ w' = w := by
  have hb : b.toNat < 256 := b.toNat_lt
  unfold val
  generalize b.toNat = n at hb ⊢
  by_cases h1 : 48 ≤ n ∧ n ≤ 57
  · rw [if_pos h1]
    obtain ⟨h1, h2⟩ := h1
    go_enter Tryz.func139, Tryz.ntmps139
    go_wp2
    go_ret
    exact ⟨ret_int (by omega), rfl⟩
  · rw [if_neg h1]
    by_cases h2 : 97 ≤ n ∧ n ≤ 102
    · rw [if_pos h2]
      obtain ⟨h2, h3⟩ := h2
      have h4 : ¬ (n : Int) ≤ 57 := by omega
      go_enter Tryz.func139, Tryz.ntmps139
      go_wp2
      go_ret
      exact ⟨ret_int (by omega), rfl⟩
    · rw [if_neg h2]
      by_cases h3 : 65 ≤ n ∧ n ≤ 70
      · rw [if_pos h3]
        obtain ⟨h3, h5⟩ := h3
        have h4 : ¬ (n : Int) ≤ 57 := by omega
        have h6 : ¬ 97 ≤ (n : Int) := by omega
        go_enter Tryz.func139, Tryz.ntmps139
        go_wp2
        go_ret
        exact ⟨ret_int (by omega), rfl⟩
      · rw [if_neg h3]
        go_enter Tryz.func139, Tryz.ntmps139
        go_wp2
        all_goals (first | (exfalso; omega) | (go_ret; exact ⟨ret_int (by omega), rfl⟩))
end Go.Proofs.YtoffjpgobhcipaaGreatDoor.Num

/-
  Layer 5: contracts of number.inRun and of the document's digit and headed.
-/
namespace Go.Proofs.YtoffjpgobhcipaaGreatDoor.Num
open Go.ChangeShapes Go.WideShapes Go.ChangeAt Go.RowKit

end Go.Proofs.YtoffjpgobhcipaaGreatDoor.Num

/-
  Layer 5: contract of the document's digit.
-/
namespace Go.Proofs.YtoffjpgobhcipaaGreatDoor.Num
open Go.ChangeShapes Go.WideShapes Go.ChangeAt Go.RowKit

def smalls : ByteArray := ⟨#[48, 49, 50, 51, 52, 53, 54, 55, 56, 57, 97, 98, 99, 100, 101, 102]⟩
def bigs : ByteArray := ⟨#[48, 49, 50, 51, 52, 53, 54, 55, 56, 57, 65, 66, 67, 68, 69, 70]⟩
theorem digit_table : ∀ c : Fin 256, ∀ i : Fin 16, ((smalls.data[i.val]? = some (UInt8.ofNat c.val) ∨ bigs.data[i.val]? = some (UInt8.ofNat c.val)) ↔ val (UInt8.ofNat c.val) = i.val) := by decide +kernel
theorem digit_at (c : UInt8) (i : Nat) (h : i < 16) (h1 : i < smalls.size) (h2 : i < bigs.size) : (smalls[i] = c ∨ bigs[i] = c) ↔ val c = i := by
  have := digit_table ⟨c.toNat, c.toNat_lt⟩ ⟨i, h⟩
  rw [show UInt8.ofNat c.toNat = c by simp] at this
  rw [← this]
  have e1 : smalls.data[i]? = some smalls[i] := Array.getElem?_eq_getElem h1
  have e2 : bigs.data[i]? = some bigs[i] := Array.getElem?_eq_getElem h2
  rw [e1, e2]; simp
set_option maxHeartbeats 2000000 in
theorem digit_any (c : UInt8) (base : Nat) (hb : base ≤ 16) (w : World) :
    Calls Tryz.prog 101 #[.int .u8 c.toNat, .int .i64 base] w fun e w' => e = .returned (.bool (dig base c)) ∧ Below w.heap.size w w' := by
  go_enter Tryz.func101, Tryz.ntmps101
  go_wp2
  generalize hA : (⟨#[48, 49, 50, 51, 52, 53, 54, 55, 56, 57, 97, 98, 99, 100, 101, 102]⟩ : ByteArray) = A
  generalize hB : (⟨#[48, 49, 50, 51, 52, 53, 54, 55, 56, 57, 65, 66, 67, 68, 69, 70]⟩ : ByteArray) = B
  have sA : A.size = 16 := by rw [← hA]; rfl
  have sB : B.size = 16 := by rw [← hB]; rfl
  have hat : ∀ (k : Nat) (h1 : k < A.size) (h2 : k < B.size), (A[k] = c ∨ B[k] = c) ↔ val c = k := by
    intro k h1 h2
    have k16 : k < 16 := by omega
    subst hA hB
    exact digit_at c k k16 h1 h2
  have HT := Lib.hid hat
  clear hat hA hB
  go_loopw [7] (fun ii wr => ∃ k : Nat, k ≤ base ∧ ii = .int .i64 k ∧ k ≤ val c ∧ Below w.heap.size w wr) (fun ii _ => base - (intOf ii).toNat)
  case atStart => exact ⟨0, Nat.zero_le _, rfl, Nat.zero_le _, Below.refl _ _⟩
  case round =>
    obtain ⟨k, hk, rfl, hv, hBl⟩ := hrel
    by_cases hlt : k < base
    · have k1 : k < A.size := by omega
      have k2 : k < B.size := by omega
      have ht := HT.out k k1 k2
      by_cases h1 : A[k] = c
      · have hd : dig base c = true := by unfold dig; rw [decide_eq_true_iff, ht.1 (.inl h1)]; exact hlt
        have d1 : (((A[k]'k1).toNat : Int) == (c.toNat : Int)) = true := by rw [h1]; simp
        clear h1 ht
        go_wp2
        go_ret
        exact ⟨ret_bool hd.symm, hBl⟩
      · have d1 : (((A[k]'k1).toNat : Int) == (c.toNat : Int)) = false := by
          rw [beq_eq_false_iff_ne]; intro h; exact h1 (UInt8.toNat_inj.1 (by omega))
        by_cases h2 : B[k] = c
        · have hd : dig base c = true := by unfold dig; rw [decide_eq_true_iff, ht.1 (.inr h2)]; exact hlt
          have d2 : (((B[k]'k2).toNat : Int) == (c.toNat : Int)) = true := by rw [h2]; simp
          clear h1 h2 ht
          go_wp2
          go_ret
          exact ⟨ret_bool hd.symm, hBl⟩
        · have d2 : (((B[k]'k2).toNat : Int) == (c.toNat : Int)) = false := by
            rw [beq_eq_false_iff_ne]; intro h; exact h2 (UInt8.toNat_inj.1 (by omega))
          have hn : val c ≠ k := fun h => (ht.2 h).elim h1 h2
          clear h1 h2 ht
          go_wp2
          go_roundw
          case rel => exact ⟨k + 1, by omega, by go_num, by omega, hBl⟩
          case measure => simp [intOf]; omega
    · obtain rfl : k = base := by omega
      have hd : dig k c = false := by unfold dig; rw [decide_eq_false_iff_not]; omega
      go_wp2
      go_ret
      exact ⟨ret_bool hd.symm, hBl⟩
end Go.Proofs.YtoffjpgobhcipaaGreatDoor.Num

/-
  Layer 5: rows of digits, plain.
-/
namespace Go.Proofs.YtoffjpgobhcipaaGreatDoor.Num
open Go.ChangeShapes Go.WideShapes Go.ChangeAt Go.RowKit

/-- is a text a row of a base? -/
def row (base : Nat) : List UInt8 → Bool
  | [] => false
  | [c] => dig base c
  | c :: d :: t => dig base c && (if d = 95 then row base t else row base (d :: t))

theorem dig_bar {base : Nat} (h : base ≤ 16) : dig base 95 = false := by
  unfold dig; rw [decide_eq_false_iff_not]; have : val 95 = 99 := by decide
  omega

/-- what of a text is still to be looked at, ahead of a byte -/
def rest (base : Nat) (l : List UInt8) : Nat → Bool
  | 0 => row base l
  | k + 1 => if l[k]? = some 95 then row base (l.drop (k + 1)) else row base (l.drop k)

theorem rest_digit {base : Nat} {l : List UInt8} {k : Nat} {c : UInt8} (hb : base ≤ 16) (hc : l[k]? = some c) (hd : dig base c = true) (hp : ∀ j x, k = j + 1 → l[j]? = some x → x = 95 ∨ dig base x = true) :
    rest base l k = rest base l (k + 1) := by
  have hn : c ≠ 95 := fun h => by rw [h, dig_bar hb] at hd; cases hd
  have e : rest base l (k + 1) = row base (l.drop k) := by
    show (if l[k]? = some 95 then row base (l.drop (k + 1)) else row base (l.drop k)) = _
    rw [if_neg (by rw [hc]; simpa using hn)]
  rw [e]
  match k with
  | 0 => rfl
  | j + 1 =>
    show (if l[j]? = some 95 then row base (l.drop (j + 1)) else row base (l.drop j)) = _
    by_cases h : l[j]? = some 95
    · rw [if_pos h]
    · rw [if_neg h]
      obtain ⟨hk, e1⟩ := List.getElem?_eq_some_iff.1 hc
      have hj : j < l.length := by omega
      rw [List.drop_eq_getElem_cons hj, List.drop_eq_getElem_cons hk, e1]
      rcases hp j l[j] rfl (List.getElem?_eq_getElem hj) with h1 | h1
      · exact absurd (by rw [List.getElem?_eq_getElem hj, h1]) h
      · simp [row, h1, hn]

theorem rest_bar {base : Nat} {l : List UInt8} {k : Nat} {x : UInt8} (hc : l[k + 1]? = some 95) (hx : l[k]? = some x) (hn : x ≠ 95) (hd : dig base x = true) :
    rest base l (k + 1) = rest base l (k + 2) := by
  have e : rest base l (k + 2) = row base (l.drop (k + 2)) := by
    show (if l[k + 1]? = some 95 then row base (l.drop (k + 2)) else row base (l.drop (k + 1))) = _
    rw [if_pos hc]
  have e2 : rest base l (k + 1) = row base (l.drop k) := by
    show (if l[k]? = some 95 then row base (l.drop (k + 1)) else row base (l.drop k)) = _
    rw [if_neg (by rw [hx]; simpa using hn)]
  rw [e, e2]
  obtain ⟨hk, e1⟩ := List.getElem?_eq_some_iff.1 hc
  obtain ⟨hj, e3⟩ := List.getElem?_eq_some_iff.1 hx
  rw [List.drop_eq_getElem_cons hj, List.drop_eq_getElem_cons hk, e1, e3]
  simp [row, hd]

theorem rest_none {base : Nat} {l : List UInt8} {k : Nat} {c : UInt8} (hc : l[k]? = some c) (hd : dig base c = false) (hp : c = 95 → ∃ j, k = j + 1 ∧ l[j]? = some 95) :
    rest base l k = false := by
  have key : row base (l.drop k) = false := by
    obtain ⟨hk, e1⟩ := List.getElem?_eq_some_iff.1 hc
    rw [List.drop_eq_getElem_cons hk, e1]
    cases l.drop (k + 1) with
    | nil => simp [row, hd]
    | cons d t => simp [row, hd]
  match k with
  | 0 => exact key
  | j + 1 =>
    show (if l[j]? = some 95 then row base (l.drop (j + 1)) else row base (l.drop j)) = _
    by_cases h : l[j]? = some 95
    · rw [if_pos h]; exact key
    · rw [if_neg h]
      obtain ⟨hk, e1⟩ := List.getElem?_eq_some_iff.1 hc
      have hj : j < l.length := by omega
      have hn : c ≠ 95 := fun h1 => by
        obtain ⟨i, e, h2⟩ := hp h1
        obtain rfl : i = j := by omega
        exact h h2
      rw [List.drop_eq_getElem_cons hk, e1] at key
      rw [List.drop_eq_getElem_cons hj, List.drop_eq_getElem_cons hk, e1]
      simp [row, hn, key]

theorem rest_end {base : Nat} {l : List UInt8} {k : Nat} {c : UInt8} (hb : base ≤ 16) (hl : l.length = k + 1) (hc : l[k]? = some c) (hd : dig base c = true) : rest base l (k + 1) = true := by
  have hn : c ≠ 95 := fun h => by rw [h, dig_bar hb] at hd; cases hd
  show (if l[k]? = some 95 then row base (l.drop (k + 1)) else row base (l.drop k)) = _
  rw [if_neg (by rw [hc]; simpa using hn)]
  obtain ⟨hk, e1⟩ := List.getElem?_eq_some_iff.1 hc
  rw [List.drop_eq_getElem_cons hk, e1, List.drop_eq_nil_of_le (by omega)]
  simp [row, hd]

/-- a row begins and ends with a digit -/
theorem row_head {base : Nat} {l : List UInt8} (h : row base l = true) : ∃ c, l[0]? = some c ∧ dig base c = true := by
  match l, h with
  | [c], h => exact ⟨c, rfl, h⟩
  | c :: d :: t, h => exact ⟨c, rfl, by simp [row] at h; exact h.1⟩
theorem row_last {base : Nat} : ∀ {l : List UInt8}, row base l = true → ∃ c, l[l.length - 1]? = some c ∧ dig base c = true
  | [c], h => ⟨c, rfl, h⟩
  | c :: d :: t, h => by
    simp [row] at h
    by_cases hd : d = 95
    · rw [if_pos hd] at h
      obtain ⟨x, e, h2⟩ := row_last h.2
      refine ⟨x, ?_, h2⟩
      have : 0 < t.length := by cases t with | nil => simp at e | cons => simp
      rw [show (c :: d :: t).length - 1 = (t.length - 1) + 2 by simp; omega]
      simpa using e
    · rw [if_neg hd] at h
      obtain ⟨x, e, h2⟩ := row_last h.2
      refine ⟨x, ?_, h2⟩
      rw [show (c :: d :: t).length - 1 = ((d :: t).length - 1) + 1 by simp]
      rw [List.getElem?_cons_succ]; exact e
termination_by l => l.length
end Go.Proofs.YtoffjpgobhcipaaGreatDoor.Num

/-
  Layer 5: contract of the document's Row.
-/
namespace Go.Proofs.YtoffjpgobhcipaaGreatDoor.Num
open Go.ChangeShapes Go.WideShapes Go.ChangeAt Go.RowKit

theorem at_of (s : ByteArray) (k : Nat) (h : k < s.size) : s.data.toList[k]? = some s[k] := by
  rw [List.getElem?_eq_getElem (by simpa using h)]; simp [ByteArray.getElem_eq_getElem_data]
set_option maxHeartbeats 4000000 in
theorem refRow_any (s : ByteArray) (hs : s.size ≤ 1048576) (base : Nat) (hb : base ≤ 16) (w : World) :
    Calls Tryz.prog 79 #[.string s, .int .i64 base] w fun e w' => e = .returned (.bool (row base s.data.toList)) ∧ Below w.heap.size w w' := by
  have hlen : s.data.toList.length = s.size := by simp
  go_enter Tryz.func79, Tryz.ntmps79
  by_cases h0 : s.size = 0
  · have hr : row base s.data.toList = false := by
      have : s.data.toList = [] := List.eq_nil_of_length_eq_zero (by omega)
      rw [this]; rfl
    have d0 : ((s.size : Int) == 0) = true := by rw [h0]; rfl
    go_wp2
    go_ret
    exact ⟨ret_bool hr.symm, Below.refl _ _⟩
  · have d0 : ((s.size : Int) == 0) = false := by rw [beq_eq_false_iff_ne]; omega
    obtain ⟨n, hn⟩ : ∃ n, s.size = n + 1 := ⟨s.size - 1, by omega⟩
    have e1 : (s.size : Int) - 1 = n := by omega
    have HN := Lib.hid hn
    have i0 : 0 < s.size := by omega
    have i1 : n < s.size := by omega
    clear hn
    cases hd0 : dig base s[0] with
    | false =>
      have hr : row base s.data.toList = false := by
        cases hh : row base s.data.toList with
        | false => rfl
        | true => obtain ⟨c, h1, h2⟩ := row_head hh
                  rw [at_of s 0 i0] at h1; cases h1; rw [hd0] at h2; cases h2
      go_wp2_with (go_at_call 101; refine (digit_any _ base hb _).mono ?_; rintro e w1 ⟨he, hB1⟩; rw [hd0] at he; subst he)
      go_ret
      exact ⟨ret_bool hr.symm, hB1⟩
    | true =>
      cases hd1 : dig base s[n] with
      | false =>
        have hr : row base s.data.toList = false := by
          cases hh : row base s.data.toList with
          | false => rfl
          | true => obtain ⟨c, h1, h2⟩ := row_last hh
                    rw [hlen, show s.size - 1 = n by have := HN.out; omega, at_of s n i1] at h1; cases h1; rw [hd1] at h2; cases h2
        have tok : True := trivial
        go_wp2_with (first
          | (go_at_call 101; clear tok; refine (digit_any _ base hb _).mono ?_; rintro e w1 ⟨he, hB1⟩; rw [hd0] at he; subst he)
          | (go_at_call 101; refine (digit_any _ base hb _).mono ?_; rintro e w2 ⟨he, hB2⟩; rw [hd1] at he; subst he))
        go_ret
        exact ⟨ret_bool hr.symm, below_chain hB1 hB2⟩
      | true =>
        have tok : True := trivial
        go_wp2_with (first
          | (go_at_call 101; clear tok; refine (digit_any _ base hb _).mono ?_; rintro e w1 ⟨he, hB1⟩; rw [hd0] at he; subst he)
          | (go_at_call 101; refine (digit_any _ base hb _).mono ?_; rintro e w2 ⟨he, hB2⟩; rw [hd1] at he; subst he))
        have hB0 := below_chain hB1 hB2
        clear hB1 hB2
        have HD0 := Lib.hid hd0
        have HD1 := Lib.hid hd1
        clear hd0 hd1
        go_loopw [5] (fun ii wr => ∃ k : Nat, k ≤ s.size ∧ ii = .int .i64 k ∧ Below w.heap.size w wr ∧ Hid (row base s.data.toList = rest base s.data.toList k) ∧ Hid (∀ j x, k = j + 1 → s.data.toList[j]? = some x → x = 95 ∨ dig base x = true)) (fun ii _ => s.size - (intOf ii).toNat)
        case atStart => exact ⟨0, Nat.zero_le _, rfl, hB0, Lib.hid rfl, Lib.hid fun j x h => by cases h⟩
        case round =>
          obtain ⟨k, hk, rfl, hBl, hR, hP⟩ := hrel
          by_cases hlt : k < s.size
          · have ik : k < s.size := hlt
            have hx := Lib.hid (at_of s k ik)
            by_cases h95 : s[k] = 95
            · match k, hk, hR, hP, hlt, ik, hx, h95 with
              | 0, _, _, _, _, _, _, h95 => have := HD0.out; rw [h95, dig_bar hb] at this; cases this
              | j + 1, hk, hR, hP, hlt, ik, hx, h95 =>
                have e2 : ((j + 1 : Nat) : Int) - 1 = j := by omega
                have ij : j < s.size := by omega
                have d1 : ((s[j + 1].toNat : Int) == 95) = true := by rw [h95]; rfl
                have hc : s.data.toList[j + 1]? = some 95 := by rw [hx.out, h95]
                have hj := at_of s j ij
                by_cases h2 : s[j] = 95
                · have d2 : ((s[j].toNat : Int) == 95) = true := by rw [h2]; rfl
                  have hd : dig base s[j + 1] = false := by rw [h95]; exact dig_bar hb
                  have hf : row base s.data.toList = false := by
                    rw [hR.out]; exact rest_none hc (dig_bar hb) fun _ => ⟨j, rfl, by rw [hj, h2]⟩
                  clear h95 h2 hj hc
                  go_wp2_with (go_at_call 101; refine (digit_any _ base hb _).mono ?_; rintro e w3 ⟨he, hB3⟩; rw [hd] at he; subst he)
                  go_ret
                  exact ⟨ret_bool hf.symm, hBl.trans (hB3.mono hBl.size)⟩
                · have d2 : ((s[j].toNat : Int) == 95) = false := by
                    rw [beq_eq_false_iff_ne]; intro h; exact h2 (UInt8.toNat_inj.1 (by show s[j].toNat = 95; omega))
                  have hdj : dig base s[j] = true := (hP.out j _ rfl hj).resolve_left h2
                  have hf : row base s.data.toList = rest base s.data.toList (j + 2) := by
                    rw [hR.out]; exact rest_bar hc hj h2 hdj
                  have hf := Lib.hid hf
                  have hc := Lib.hid hc
                  clear h95 h2 hj hdj
                  go_wp2
                  go_roundw
                  case rel => exact ⟨j + 2, by omega, by go_num, hBl, hf, Lib.hid fun i x h1 h2 => by
                    obtain rfl : i = j + 1 := by omega
                    rw [hc.out] at h2; cases h2; exact .inl rfl⟩
                  case measure => simp [intOf]; omega
            · have d1 : ((s[k].toNat : Int) == 95) = false := by
                rw [beq_eq_false_iff_ne]; intro h; exact h95 (UInt8.toNat_inj.1 (by show s[k].toNat = 95; omega))
              cases hd : dig base s[k] with
              | false =>
                have hf : row base s.data.toList = false := by
                  rw [hR.out]; exact rest_none hx.out hd fun h => absurd h h95
                clear h95
                go_wp2_with (go_at_call 101; refine (digit_any _ base hb _).mono ?_; rintro e w3 ⟨he, hB3⟩; rw [hd] at he; subst he)
                go_ret
                exact ⟨ret_bool hf.symm, hBl.trans (hB3.mono hBl.size)⟩
              | true =>
                have hf := Lib.hid (hR.out.trans (rest_digit hb hx.out hd hP.out))
                clear h95
                go_wp2_with (go_at_call 101; refine (digit_any _ base hb _).mono ?_; rintro e w3 ⟨he, hB3⟩; rw [hd] at he; subst he)
                go_roundw
                case rel => exact ⟨k + 1, by omega, by go_num, hBl.trans (hB3.mono hBl.size), hf, Lib.hid fun i x h1 h2 => by
                  obtain rfl : i = k := by omega
                  rw [hx.out] at h2; cases h2; exact .inr hd⟩
                case measure => simp [intOf]; omega
          · have hkn : k = n + 1 := by have := HN.out; omega
            have hks : ¬ (k : Int) < s.size := by omega
            have hr : row base s.data.toList = true := by
              rw [hR.out, hkn]; exact rest_end hb (by have := HN.out; omega) (at_of s n i1) HD1.out
            have hr := Lib.hid hr
            clear hkn
            go_wp2
            go_ret
            exact ⟨by first | rfl | exact ret_bool hr.out.symm, hBl⟩
end Go.Proofs.YtoffjpgobhcipaaGreatDoor.Num

/-
  Layer 5: contracts of the document's headed, under and Power.
-/
namespace Go.Proofs.YtoffjpgobhcipaaGreatDoor.Num
open Go.ChangeShapes Go.WideShapes Go.ChangeAt Go.RowKit

/-- does a text begin with 0 and one of two letters? -/
def head? (small big : UInt8) : List UInt8 → Bool
  | c :: d :: _ => decide (c = 48) && (decide (d = small) || decide (d = big))
  | _ => false
theorem bytes_eq (a b : UInt8) : ((a.toNat : Int) == (b.toNat : Int)) = decide (a = b) := by
  rw [Bool.eq_iff_iff, beq_iff_eq, decide_eq_true_iff]
  exact ⟨fun h => UInt8.toNat_inj.1 (by omega), fun h => by rw [h]⟩
theorem bytes_n (a b : UInt8) (n : Int) (hn : (b.toNat : Int) = n) : ((a.toNat : Int) == n) = decide (a = b) := by
  rw [← hn]; exact bytes_eq a b
theorem two_of (s : ByteArray) (h0 : 0 < s.size) (h1 : 1 < s.size) : s.data.toList = s[0] :: s[1] :: s.data.toList.drop 2 := by
  have e0 : 0 < s.data.toList.length := by simpa using h0
  have e1 : 1 < s.data.toList.length := by simpa using h1
  conv => lhs; rw [← List.drop_zero (l := s.data.toList), List.drop_eq_getElem_cons e0, List.drop_eq_getElem_cons e1]
  simp [ByteArray.getElem_eq_getElem_data]
theorem head_short (small big : UInt8) (l : List UInt8) (h : l.length < 2) : head? small big l = false := by
  match l, h with
  | [], _ => rfl
  | [c], _ => rfl

set_option maxHeartbeats 2000000 in
theorem headed_any (s : ByteArray) (hs : s.size ≤ 1048576) (small big : UInt8) (w : World) :
    Calls Tryz.prog 98 #[.string s, .int .u8 small.toNat, .int .u8 big.toNat] w fun e w' => e = .returned (.bool (head? small big s.data.toList)) ∧ w' = w := by
  have hlen : s.data.toList.length = s.size := by simp
  by_cases h2 : s.size < 2
  · have hr : head? small big s.data.toList = false := head_short _ _ _ (by omega)
    rw [hr]
    have d : ¬ (2 : Int) ≤ s.size := by omega
    go_enter Tryz.func98, Tryz.ntmps98
    go_wp2
    go_ret
    exact ⟨ret_bool rfl, rfl⟩
  · have i0 : 0 < s.size := by omega
    have i1 : 1 < s.size := by omega
    have d : (2 : Int) ≤ s.size := by omega
    have hr : head? small big s.data.toList = (decide (s[0] = 48) && (decide (s[1] = small) || decide (s[1] = big))) := by
      rw [two_of s i0 i1]; rfl
    rw [hr]
    have b0 := bytes_n s[0] 48 48 rfl
    have b1 := bytes_eq s[1] small
    have b2 := bytes_eq s[1] big
    clear hr
    go_enter Tryz.func98, Tryz.ntmps98
    cases hc0 : decide (s[0] = 48) <;> cases hc1 : decide (s[1] = small) <;> cases hc2 : decide (s[1] = big) <;> rw [hc0] at b0 <;> rw [hc1] at b1 <;> rw [hc2] at b2
    all_goals (go_wp2; go_ret; exact ⟨ret_bool rfl, rfl⟩)
end Go.Proofs.YtoffjpgobhcipaaGreatDoor.Num

/-
  Layer 5: contracts of the document's under and Power.
-/
namespace Go.Proofs.YtoffjpgobhcipaaGreatDoor.Num
open Go.ChangeShapes Go.WideShapes Go.ChangeAt Go.RowKit

theorem extract_take (s : ByteArray) (a b : Nat) : (s.extract a b).data.toList = (s.data.toList.drop a).take (b - a) := by
  simp [ByteArray.data_extract, List.extract_eq_take_drop]
theorem extract_drop (s : ByteArray) (a : Nat) : (s.extract a s.size).data.toList = s.data.toList.drop a := by
  rw [extract_take]; apply List.take_of_length_le; simp
/-- a row, or _ and a row -/
def under (base : Nat) (l : List UInt8) : Bool := row base l || (l.head? == some 95 && row base (l.drop 1))
theorem one_of (s : ByteArray) (h0 : 0 < s.size) : s.data.toList.head? = some s[0] := by
  rw [List.head?_eq_getElem?]; exact at_of s 0 h0

set_option maxHeartbeats 2000000 in
theorem under_any (s : ByteArray) (hs : s.size ≤ 1048576) (base : Nat) (hb : base ≤ 16) (w : World) :
    Calls Tryz.prog 97 #[.string s, .int .i64 base] w fun e w' => e = .returned (.bool (under base s.data.toList)) ∧ Below w.heap.size w w' := by
  have hlen : s.data.toList.length = s.size := by simp
  cases hr : row base s.data.toList with
  | true =>
    have hu : under base s.data.toList = true := by unfold under; rw [hr]; rfl
    rw [hu]
    go_enter Tryz.func97, Tryz.ntmps97
    go_wp2_with (go_at_call 79; refine (refRow_any s hs base hb _).mono ?_; rintro e w1 ⟨he, hB1⟩; rw [hr] at he; subst he)
    go_ret
    exact ⟨ret_bool rfl, hB1⟩
  | false =>
    by_cases h1 : 1 < s.size
    · have i0 : 0 < s.size := by omega
      have i1 : (1 : Int) < s.size := by omega
      have hu : under base s.data.toList = (decide (s[0] = 95) && row base (s.extract 1 s.size).data.toList) := by
        have e : (some s[0] == some 95) = decide (s[0] = 95) := by rw [Bool.eq_iff_iff]; simp
        unfold under; rw [hr, one_of s i0, extract_drop, Bool.false_or, e]
      rw [hu]
      have hz : (s.extract 1 s.size).size ≤ 1048576 := by simp; omega
      have b0 := bytes_n s[0] 95 95 rfl
      clear hu
      cases hc : decide (s[0] = 95) with
      | false =>
        rw [hc] at b0
        go_enter Tryz.func97, Tryz.ntmps97
        go_wp2_with (go_at_call 79; refine (refRow_any s hs base hb _).mono ?_; rintro e w1 ⟨he, hB1⟩; rw [hr] at he; subst he)
        go_ret
        exact ⟨ret_bool rfl, hB1⟩
      | true =>
        rw [hc] at b0
        have tok : True := trivial
        cases hr2 : row base (s.extract 1 s.size).data.toList with
        | false =>
          go_enter Tryz.func97, Tryz.ntmps97
          go_wp2_with (first
            | (go_at_call 79; clear tok; refine (refRow_any s hs base hb _).mono ?_; rintro e w1 ⟨he, hB1⟩; rw [hr] at he; subst he)
            | (go_at_call 79; refine (refRow_any _ hz base hb _).mono ?_; rintro e w2 ⟨he, hB2⟩; rw [hr2] at he; subst he))
          go_ret
          exact ⟨ret_bool rfl, below_chain hB1 hB2⟩
        | true =>
          go_enter Tryz.func97, Tryz.ntmps97
          go_wp2_with (first
            | (go_at_call 79; clear tok; refine (refRow_any s hs base hb _).mono ?_; rintro e w1 ⟨he, hB1⟩; rw [hr] at he; subst he)
            | (go_at_call 79; refine (refRow_any _ hz base hb _).mono ?_; rintro e w2 ⟨he, hB2⟩; rw [hr2] at he; subst he))
          go_ret
          exact ⟨ret_bool rfl, below_chain hB1 hB2⟩
    · have i1 : ¬ (1 : Int) < s.size := by omega
      have hu : under base s.data.toList = false := by
        unfold under; rw [hr]
        have : s.data.toList.drop 1 = [] := List.drop_eq_nil_of_le (by omega)
        rw [this]; simp [row]
      rw [hu]
      go_enter Tryz.func97, Tryz.ntmps97
      go_wp2_with (go_at_call 79; refine (refRow_any s hs base hb _).mono ?_; rintro e w1 ⟨he, hB1⟩; rw [hr] at he; subst he)
      go_ret
      exact ⟨ret_bool rfl, hB1⟩
end Go.Proofs.YtoffjpgobhcipaaGreatDoor.Num

/-
  Layer 5: contract of the document's Power.
-/
namespace Go.Proofs.YtoffjpgobhcipaaGreatDoor.Num
open Go.ChangeShapes Go.WideShapes Go.ChangeAt Go.RowKit

/-- a letter, a sign or none, a row -/
def power (small big : UInt8) : List UInt8 → Bool
  | c :: d :: t => (decide (c = small) || decide (c = big)) && (if d = 43 ∨ d = 45 then row 10 t else row 10 (d :: t))
  | _ => false
theorem power_short (small big : UInt8) (l : List UInt8) (h : l.length < 2) : power small big l = false := by
  match l, h with
  | [], _ => rfl
  | [c], _ => rfl

set_option maxHeartbeats 4000000 in
theorem power_any (s : ByteArray) (hs : s.size ≤ 1048576) (small big : UInt8) (w : World) :
    Calls Tryz.prog 99 #[.string s, .int .u8 small.toNat, .int .u8 big.toNat] w fun e w' => e = .returned (.bool (power small big s.data.toList)) ∧ Below w.heap.size w w' := by
  have hlen : s.data.toList.length = s.size := by simp
  by_cases h2 : s.size < 2
  · have hr : power small big s.data.toList = false := power_short _ _ _ (by omega)
    rw [hr]
    have d : (s.size : Int) < 2 := by omega
    go_enter Tryz.func99, Tryz.ntmps99
    go_wp2
    go_ret
    exact ⟨ret_bool rfl, Below.refl _ _⟩
  · have i0 : 0 < s.size := by omega
    have i1 : 1 < s.size := by omega
    have d : ¬ (s.size : Int) < 2 := by omega
    have d2 : (2 : Int) ≤ s.size := by omega
    have hr : power small big s.data.toList = ((decide (s[0] = small) || decide (s[0] = big)) && (if s[1] = 43 ∨ s[1] = 45 then row 10 (s.extract 2 s.size).data.toList else row 10 (s.extract 1 s.size).data.toList)) := by
      have e1 : s.data.toList.drop 1 = s[1] :: s.data.toList.drop 2 := by
        conv => lhs; rw [two_of s i0 i1]
        rfl
      rw [extract_drop, extract_drop, e1]
      conv => lhs; rw [two_of s i0 i1]
      rfl
    rw [hr]
    have hz1 : (s.extract 1 s.size).size ≤ 1048576 := by simp; omega
    have hz2 : (s.extract 2 s.size).size ≤ 1048576 := by simp; omega
    have b1 : ((s[0].toNat : Int) != (small.toNat : Int)) = !decide (s[0] = small) := by rw [bne, bytes_eq]
    have b2 : ((s[0].toNat : Int) != (big.toNat : Int)) = !decide (s[0] = big) := by rw [bne, bytes_eq]
    have b3 := bytes_n s[1] 43 43 rfl
    have b4 := bytes_n s[1] 45 45 rfl
    clear hr
    go_enter Tryz.func99, Tryz.ntmps99
    by_cases hc : s[0] = small ∨ s[0] = big
    · have hcb : (decide (s[0] = small) || decide (s[0] = big)) = true := by simpa using hc
      rw [hcb, Bool.true_and]
      by_cases hd : s[1] = 43 ∨ s[1] = 45
      · rw [if_pos hd]
        cases hv : row 10 (s.extract 2 s.size).data.toList
        all_goals
          (cases hc1 : decide (s[0] = small) <;> cases hc2 : decide (s[0] = big) <;> cases hc3 : decide (s[1] = 43) <;> cases hc4 : decide (s[1] = 45) <;>
            rw [hc1] at b1 hcb <;> rw [hc2] at b2 hcb <;> rw [hc3] at b3 <;> rw [hc4] at b4 <;>
            first
              | (exfalso; revert hcb; decide)
              | (exfalso; simp only [decide_eq_false_iff_not] at hc3 hc4; exact hd.elim hc3 hc4)
              | (clear hc hd hcb hc1 hc2 hc3 hc4
                 go_wp2_with (go_at_call 79; refine (refRow_any _ hz2 10 (by decide) _).mono ?_; rintro e w1 ⟨he, hB1⟩; rw [hv] at he; subst he)
                 go_ret
                 exact ⟨ret_bool rfl, hB1⟩))
      · rw [if_neg hd]
        have hc3 : decide (s[1] = 43) = false := by simp only [decide_eq_false_iff_not]; exact fun h => hd (.inl h)
        have hc4 : decide (s[1] = 45) = false := by simp only [decide_eq_false_iff_not]; exact fun h => hd (.inr h)
        rw [hc3] at b3
        rw [hc4] at b4
        cases hv : row 10 (s.extract 1 s.size).data.toList
        all_goals
          (cases hc1 : decide (s[0] = small) <;> cases hc2 : decide (s[0] = big) <;>
            rw [hc1] at b1 hcb <;> rw [hc2] at b2 hcb <;>
            first
              | (exfalso; revert hcb; decide)
              | (clear hc hd hcb hc1 hc2 hc3 hc4
                 go_wp2_with (go_at_call 79; refine (refRow_any _ hz1 10 (by decide) _).mono ?_; rintro e w1 ⟨he, hB1⟩; rw [hv] at he; subst he)
                 go_ret
                 exact ⟨ret_bool rfl, hB1⟩))
    · have hc1 : decide (s[0] = small) = false := by simp only [decide_eq_false_iff_not]; exact fun h => hc (.inl h)
      have hc2 : decide (s[0] = big) = false := by simp only [decide_eq_false_iff_not]; exact fun h => hc (.inr h)
      rw [hc1] at b1
      rw [hc2] at b2
      rw [hc1, hc2]
      clear hc1 hc2 hc
      go_wp2
      go_ret
      exact ⟨ret_bool rfl, Below.refl _ _⟩
end Go.Proofs.YtoffjpgobhcipaaGreatDoor.Num

/-
  Layer 5: contract of the document's pointed.
-/
namespace Go.Proofs.YtoffjpgobhcipaaGreatDoor.Num
open Go.ChangeShapes Go.WideShapes Go.ChangeAt Go.RowKit

/-- a row, a point, a row or none; or a point and a row -/
def points (base : Nat) (hex : Bool) (l : List UInt8) : Bool :=
  match l.dropWhile (fun c => decide (c ≠ 46)) with
  | [] => false
  | _ :: b => ((row base (l.takeWhile fun c => decide (c ≠ 46)) || (hex && under base (l.takeWhile fun c => decide (c ≠ 46)))) && (b.isEmpty || row base b)) || ((l.takeWhile fun c => decide (c ≠ 46)).isEmpty && row base b)
theorem while_at : ∀ (l : List UInt8) (k : Nat), l[k]? = some 46 → (∀ j, j < k → l[j]? ≠ some 46) →
    (l.takeWhile fun c => decide (c ≠ 46)) = l.take k ∧ (l.dropWhile fun c => decide (c ≠ 46)) = 46 :: l.drop (k + 1)
  | c :: t, 0, h, _ => by
    simp at h
    subst h
    simp
  | c :: t, k + 1, h, hn => by
    have hc : c ≠ 46 := fun e => hn 0 (by omega) (by simp [e])
    obtain ⟨h1, h2⟩ := while_at t k (by simpa using h) (fun j hj => by simpa using hn (j + 1) (by omega))
    rw [List.takeWhile_cons_of_pos (by simpa using hc), List.dropWhile_cons_of_pos (by simpa using hc), h1, h2]
    exact ⟨by simp, by simp⟩
theorem while_none : ∀ (l : List UInt8), (∀ j : Nat, l[j]? ≠ some 46) → (l.dropWhile fun c => decide (c ≠ 46)) = []
  | [], _ => rfl
  | c :: t, hn => by
    have hc : c ≠ 46 := fun e => hn 0 (by simp [e])
    rw [List.dropWhile_cons_of_pos (by simpa using hc)]
    exact while_none t fun j => by simpa using hn (j + 1)

theorem list_of (b : ByteArray) : b.toList.isEmpty = b.data.toList.isEmpty := by
  unfold ByteArray.toList
  rw [ByteArray.toList_loop_eq b b.size 0 [] (by omega) (by omega)]; rfl

set_option maxHeartbeats 8000000 in
theorem pointed_any (s : ByteArray) (hs : s.size ≤ 1048576) (base : Nat) (hb : base ≤ 16) (hex : Bool) (w : World) :
    Calls Tryz.prog 100 #[.string s, .int .i64 base, .bool hex] w fun e w' => e = .returned (.bool (points base hex s.data.toList)) ∧ Below w.heap.size w w' := by
  have hlen : s.data.toList.length = s.size := by simp
  go_enter Tryz.func100, Tryz.ntmps100
  go_wp2
  go_loopw [7] (fun ii wr => ∃ k : Nat, k ≤ s.size ∧ ii = .int .i64 k ∧ wr = w ∧ Hid (∀ j, j < k → s.data.toList[j]? ≠ some 46)) (fun ii _ => s.size - (intOf ii).toNat)
  case atStart => exact ⟨0, Nat.zero_le _, rfl, rfl, Lib.hid fun j h => by omega⟩
  case round =>
    obtain ⟨k, hk, rfl, hw, hP⟩ := hrel
    subst hw
    by_cases hlt : k < s.size
    · have hx := Lib.hid (at_of s k hlt)
      by_cases h46 : s[k] = 46
      · have d1 : ((s[k].toNat : Int) != 46) = false := by rw [h46]; rfl
        obtain ⟨w1, w2⟩ := while_at s.data.toList k (by rw [hx.out, h46]) hP.out
        have ea : (s.extract 0 k).data.toList = s.data.toList.take k := by rw [extract_take]; simp
        have eb : (s.extract (k + 1) s.size).data.toList = s.data.toList.drop (k + 1) := extract_drop s (k + 1)
        have hr : points base hex s.data.toList = (((row base (s.extract 0 k).data.toList || (hex && under base (s.extract 0 k).data.toList)) && ((s.extract (k + 1) s.size).data.toList.isEmpty || row base (s.extract (k + 1) s.size).data.toList)) || ((s.extract 0 k).data.toList.isEmpty && row base (s.extract (k + 1) s.size).data.toList)) := by
          unfold points; rw [w2, w1, ea, eb]
        have hza : (s.extract 0 k).size ≤ 1048576 := by simp; omega
        have hzb : (s.extract (k + 1) s.size).size ≤ 1048576 := by simp; omega
        clear w1 w2 ea eb h46
        rw [← list_of, ← list_of] at hr
        have HR := Lib.hid hr
        clear hr
        have hA : Below wr.heap.size wr wr := Below.refl _ _
        cases hra : row base (s.extract 0 k).data.toList with
        | true =>
          cases hrb : row base (s.extract (k + 1) s.size).data.toList <;> cases heb : (s.extract (k + 1) s.size).toList.isEmpty <;> cases hea : (s.extract 0 k).toList.isEmpty
          all_goals
            (have heb' := Lib.hid heb
             have hea' := Lib.hid hea
             go_wp2_with (go_at_call 79; refine (refRow_any _ (by first | exact hza | exact hzb) base hb _).mono ?_; rintro e w1 ⟨he, hB1⟩; (first | (rw [hra] at he; subst he) | (rw [hrb] at he; subst he)); replace hA := hA.trans (hB1.mono hA.size); clear hB1)
             go_ret
             exact ⟨ret_bool (by rw [HR.out, hra, hrb, heb'.out, hea'.out]; rfl), hA⟩)
        | false =>
          cases hex with
          | false =>
            cases hrb : row base (s.extract (k + 1) s.size).data.toList <;> cases heb : (s.extract (k + 1) s.size).toList.isEmpty <;> cases hea : (s.extract 0 k).toList.isEmpty
            all_goals
              (have heb' := Lib.hid heb
               have hea' := Lib.hid hea
               go_wp2_with (go_at_call 79; refine (refRow_any _ (by first | exact hza | exact hzb) base hb _).mono ?_; rintro e w1 ⟨he, hB1⟩; (first | (rw [hra] at he; subst he) | (rw [hrb] at he; subst he)); replace hA := hA.trans (hB1.mono hA.size); clear hB1)
               go_ret
               exact ⟨ret_bool (by rw [HR.out, hra, hrb, heb'.out, hea'.out]; rfl), hA⟩)
          | true =>
            cases hua : under base (s.extract 0 k).data.toList <;> cases hrb : row base (s.extract (k + 1) s.size).data.toList <;> cases heb : (s.extract (k + 1) s.size).toList.isEmpty <;> cases hea : (s.extract 0 k).toList.isEmpty
            all_goals
              (have heb' := Lib.hid heb
               have hea' := Lib.hid hea
               go_wp2_with (first
                 | (go_at_call 97; refine (under_any _ hza base hb _).mono ?_; rintro e w1 ⟨he, hB1⟩; rw [hua] at he; subst he; replace hA := hA.trans (hB1.mono hA.size); clear hB1)
                 | (go_at_call 79; refine (refRow_any _ (by first | exact hza | exact hzb) base hb _).mono ?_; rintro e w1 ⟨he, hB1⟩; (first | (rw [hra] at he; subst he) | (rw [hrb] at he; subst he)); replace hA := hA.trans (hB1.mono hA.size); clear hB1))
               go_ret
               exact ⟨ret_bool (by rw [HR.out, hra, hua, hrb, heb'.out, hea'.out]; rfl), hA⟩)
      · have d1 : ((s[k].toNat : Int) != 46) = true := by
          rw [bne, bytes_n s[k] 46 46 rfl]; simpa using h46
        have hP' : Hid (∀ j, j < k + 1 → s.data.toList[j]? ≠ some 46) := Lib.hid fun j hj => by
          by_cases e : j = k
          · subst e; rw [hx.out]; simpa using h46
          · exact hP.out j (by omega)
        clear h46
        go_wp2
        go_roundw
        case rel => exact ⟨k + 1, by omega, by go_num, trivial, hP'⟩
        case measure => simp [intOf]; omega
    · obtain rfl : k = s.size := by omega
      have hr : points base hex s.data.toList = false := by
        unfold points
        rw [while_none s.data.toList fun j => by
          by_cases hj : j < s.size
          · exact hP.out j hj
          · rw [List.getElem?_eq_none (by omega)]; simp]
      have hr := Lib.hid hr
      go_wp2
      go_ret
      exact ⟨by first | rfl | exact ret_bool hr.out.symm, Below.refl _ _⟩
end Go.Proofs.YtoffjpgobhcipaaGreatDoor.Num
