/-
  Layer 5: digits; contracts of number.value, number.inRun and of the document's digit, headed.
-/
import Derived.Test.YtakbhbhikknhkaaRows
import Derived.WalkKit
import Derived.ProofKit
import Derived.OpenShut
import Derived.LoopTactic
import Derived.Lib.Hide
import Derived.Outline
import Derived.WalkSmall
namespace Go.Proofs.Ytakbhbhikknhkaa
open Go.ChangeShapes Go.WideShapes Go.ChangeAt Go.RowKit
theorem ret_bool {a b : Bool} (h : a = b) : Ending.returned (.bool a) = .returned (.bool b) := by rw [h]
theorem ret_int {k : IntKind} {a b : Int} (h : a = b) : Ending.returned (.int k a) = .returned (.int k b) := by rw [h]
theorem below_chain {a b c : World} (h : Below a.heap.size a b) (k : Below b.heap.size b c) : Below a.heap.size a c := h.trans (k.mono h.size)

/-- what a byte says as a digit -/
def val (b : UInt8) : Nat := if 48 ≤ b.toNat ∧ b.toNat ≤ 57 then b.toNat - 48 else if 97 ≤ b.toNat ∧ b.toNat ≤ 102 then b.toNat - 87 else if 65 ≤ b.toNat ∧ b.toNat ≤ 70 then b.toNat - 55 else 99
/-- is a byte a digit of a base? -/
def dig (base : Nat) (b : UInt8) : Bool := decide (val b < base)
def tail? (b : UInt8) : Bool := (decide (48 ≤ b.toNat) && decide (b.toNat ≤ 57)) || (decide (97 ≤ b.toNat) && decide (b.toNat ≤ 122)) || (decide (65 ≤ b.toNat) && decide (b.toNat ≤ 90)) || decide (b.toNat = 95) || decide (b.toNat = 46)

set_option maxHeartbeats 1000000 in
theorem value_any (b : UInt8) (w : World) :
    Calls Try.prog 42 #[.int .u8 b.toNat] w fun e w' => e = .returned (.int .i64 (val b)) ∧ w' = w := by
  have hb : b.toNat < 256 := b.toNat_lt
  unfold val
  generalize b.toNat = n at hb ⊢
  by_cases h1 : 48 ≤ n ∧ n ≤ 57
  · rw [if_pos h1]
    obtain ⟨h1, h2⟩ := h1
    go_enter Try.func42, Try.ntmps42
    go_wp2
    go_ret
    exact ⟨ret_int (by omega), rfl⟩
  · rw [if_neg h1]
    by_cases h2 : 97 ≤ n ∧ n ≤ 102
    · rw [if_pos h2]
      obtain ⟨h2, h3⟩ := h2
      have h4 : ¬ (n : Int) ≤ 57 := by omega
      go_enter Try.func42, Try.ntmps42
      go_wp2
      go_ret
      exact ⟨ret_int (by omega), rfl⟩
    · rw [if_neg h2]
      by_cases h3 : 65 ≤ n ∧ n ≤ 70
      · rw [if_pos h3]
        obtain ⟨h3, h5⟩ := h3
        have h4 : ¬ (n : Int) ≤ 57 := by omega
        have h6 : ¬ 97 ≤ (n : Int) := by omega
        go_enter Try.func42, Try.ntmps42
        go_wp2
        go_ret
        exact ⟨ret_int (by omega), rfl⟩
      · rw [if_neg h3]
        go_enter Try.func42, Try.ntmps42
        go_wp2
        all_goals (first | (exfalso; omega) | (go_ret; exact ⟨ret_int (by omega), rfl⟩))
end Go.Proofs.Ytakbhbhikknhkaa
