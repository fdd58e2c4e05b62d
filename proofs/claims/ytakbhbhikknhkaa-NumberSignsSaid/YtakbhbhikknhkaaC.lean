/-
  Layer 5: contract of the document's digit.
-/
import Derived.Test.YtakbhbhikknhkaaA
namespace Go.Proofs.Ytakbhbhikknhkaa
open Go.ChangeShapes Go.WideShapes Go.ChangeAt Go.RowKit

def smalls : ByteArray := ⟨#[48, 49, 50, 51, 52, 53, 54, 55, 56, 57, 97, 98, 99, 100, 101, 102]⟩
def bigs : ByteArray := ⟨#[48, 49, 50, 51, 52, 53, 54, 55, 56, 57, 65, 66, 67, 68, 69, 70]⟩
theorem digit_table : ∀ c : Fin 256, ∀ i : Fin 16, ((smalls.data[i.val]? = some (UInt8.ofNat c.val) ∨ bigs.data[i.val]? = some (UInt8.ofNat c.val)) ↔ val (UInt8.ofNat c.val) = i.val) := by decide +kernel
theorem digit_at (c : UInt8) (i : Nat) (h : i < 16) (h1 : i < smalls.size) (h2 : i < bigs.size) : (smalls[i] = c ∨ bigs[i] = c) ↔ val c = i := by
  have := digit_table ⟨c.toNat, c.toNat_lt⟩ ⟨i, h⟩
  rw [show UInt8.ofNat c.toNat = c by simp] at this
  rw [← this]
  have e1 : smalls.data[i]? = some smalls[i] := Array.getElem?_eq_getElem h1
  have e2 : bigs.data[i]? = some bigs[i] := Array.getElem?_eq_getElem h2
  rw [e1, e2]; simp
set_option maxHeartbeats 2000000 in
theorem digit_any (c : UInt8) (base : Nat) (hb : base ≤ 16) (w : World) :
    Calls Try.prog 33 #[.int .u8 c.toNat, .int .i64 base] w fun e w' => e = .returned (.bool (dig base c)) ∧ Below w.heap.size w w' := by
  go_enter Try.func33, Try.ntmps33
  go_wp2
  generalize hA : (⟨#[48, 49, 50, 51, 52, 53, 54, 55, 56, 57, 97, 98, 99, 100, 101, 102]⟩ : ByteArray) = A
  generalize hB : (⟨#[48, 49, 50, 51, 52, 53, 54, 55, 56, 57, 65, 66, 67, 68, 69, 70]⟩ : ByteArray) = B
  have sA : A.size = 16 := by rw [← hA]; rfl
  have sB : B.size = 16 := by rw [← hB]; rfl
  have hat : ∀ (k : Nat) (h1 : k < A.size) (h2 : k < B.size), (A[k] = c ∨ B[k] = c) ↔ val c = k := by
    intro k h1 h2
    have k16 : k < 16 := by omega
    subst hA hB
    exact digit_at c k k16 h1 h2
  have HT := Lib.hid hat
  clear hat hA hB
  go_loopw [7] (fun ii wr => ∃ k : Nat, k ≤ base ∧ ii = .int .i64 k ∧ k ≤ val c ∧ Below w.heap.size w wr) (fun ii _ => base - (intOf ii).toNat)
  case atStart => exact ⟨0, Nat.zero_le _, rfl, Nat.zero_le _, Below.refl _ _⟩
  case round =>
    obtain ⟨k, hk, rfl, hv, hBl⟩ := hrel
    by_cases hlt : k < base
    · have k1 : k < A.size := by omega
      have k2 : k < B.size := by omega
      have ht := HT.out k k1 k2
      by_cases h1 : A[k] = c
      · have hd : dig base c = true := by unfold dig; rw [decide_eq_true_iff, ht.1 (.inl h1)]; exact hlt
        have d1 : (((A[k]'k1).toNat : Int) == (c.toNat : Int)) = true := by rw [h1]; simp
        clear h1 ht
        go_wp2
        go_ret
        exact ⟨ret_bool hd.symm, hBl⟩
      · have d1 : (((A[k]'k1).toNat : Int) == (c.toNat : Int)) = false := by
          rw [beq_eq_false_iff_ne]; intro h; exact h1 (UInt8.toNat_inj.1 (by omega))
        by_cases h2 : B[k] = c
        · have hd : dig base c = true := by unfold dig; rw [decide_eq_true_iff, ht.1 (.inr h2)]; exact hlt
          have d2 : (((B[k]'k2).toNat : Int) == (c.toNat : Int)) = true := by rw [h2]; simp
          clear h1 h2 ht
          go_wp2
          go_ret
          exact ⟨ret_bool hd.symm, hBl⟩
        · have d2 : (((B[k]'k2).toNat : Int) == (c.toNat : Int)) = false := by
            rw [beq_eq_false_iff_ne]; intro h; exact h2 (UInt8.toNat_inj.1 (by omega))
          have hn : val c ≠ k := fun h => (ht.2 h).elim h1 h2
          clear h1 h2 ht
          go_wp2
          go_roundw
          case rel => exact ⟨k + 1, by omega, by go_num, by omega, hBl⟩
          case measure => simp [intOf]; omega
    · obtain rfl : k = base := by omega
      have hd : dig k c = false := by unfold dig; rw [decide_eq_false_iff_not]; omega
      go_wp2
      go_ret
      exact ⟨ret_bool hd.symm, hBl⟩
end Go.Proofs.Ytakbhbhikknhkaa
