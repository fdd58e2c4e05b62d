/-
  Layer 5: contract of the document's Power.
-/
import Derived.Test.YtakbhbhikknhkaaG
namespace Go.Proofs.Ytakbhbhikknhkaa
open Go.ChangeShapes Go.WideShapes Go.ChangeAt Go.RowKit

/-- a letter, a sign or none, a row -/
def power (small big : UInt8) : List UInt8 → Bool
  | c :: d :: t => (decide (c = small) || decide (c = big)) && (if d = 43 ∨ d = 45 then row 10 t else row 10 (d :: t))
  | _ => false
theorem power_short (small big : UInt8) (l : List UInt8) (h : l.length < 2) : power small big l = false := by
  match l, h with
  | [], _ => rfl
  | [c], _ => rfl

set_option maxHeartbeats 4000000 in
theorem power_any (s : ByteArray) (hs : s.size ≤ 1048576) (small big : UInt8) (w : World) :
    Calls Try.prog 31 #[.string s, .int .u8 small.toNat, .int .u8 big.toNat] w fun e w' => e = .returned (.bool (power small big s.data.toList)) ∧ Below w.heap.size w w' := by
  have hlen : s.data.toList.length = s.size := by simp
  by_cases h2 : s.size < 2
  · have hr : power small big s.data.toList = false := power_short _ _ _ (by omega)
    rw [hr]
    have d : (s.size : Int) < 2 := by omega
    go_enter Try.func31, Try.ntmps31
    go_wp2
    go_ret
    exact ⟨ret_bool rfl, Below.refl _ _⟩
  · have i0 : 0 < s.size := by omega
    have i1 : 1 < s.size := by omega
    have d : ¬ (s.size : Int) < 2 := by omega
    have d2 : (2 : Int) ≤ s.size := by omega
    have hr : power small big s.data.toList = ((decide (s[0] = small) || decide (s[0] = big)) && (if s[1] = 43 ∨ s[1] = 45 then row 10 (s.extract 2 s.size).data.toList else row 10 (s.extract 1 s.size).data.toList)) := by
      have e1 : s.data.toList.drop 1 = s[1] :: s.data.toList.drop 2 := by
        conv => lhs; rw [two_of s i0 i1]
        rfl
      rw [extract_drop, extract_drop, e1]
      conv => lhs; rw [two_of s i0 i1]
      rfl
    rw [hr]
    have hz1 : (s.extract 1 s.size).size ≤ 1048576 := by simp; omega
    have hz2 : (s.extract 2 s.size).size ≤ 1048576 := by simp; omega
    have b1 : ((s[0].toNat : Int) != (small.toNat : Int)) = !decide (s[0] = small) := by rw [bne, bytes_eq]
    have b2 : ((s[0].toNat : Int) != (big.toNat : Int)) = !decide (s[0] = big) := by rw [bne, bytes_eq]
    have b3 := bytes_n s[1] 43 43 rfl
    have b4 := bytes_n s[1] 45 45 rfl
    clear hr
    go_enter Try.func31, Try.ntmps31
    by_cases hc : s[0] = small ∨ s[0] = big
    · have hcb : (decide (s[0] = small) || decide (s[0] = big)) = true := by simpa using hc
      rw [hcb, Bool.true_and]
      by_cases hd : s[1] = 43 ∨ s[1] = 45
      · rw [if_pos hd]
        cases hv : row 10 (s.extract 2 s.size).data.toList
        all_goals
          (cases hc1 : decide (s[0] = small) <;> cases hc2 : decide (s[0] = big) <;> cases hc3 : decide (s[1] = 43) <;> cases hc4 : decide (s[1] = 45) <;>
            rw [hc1] at b1 hcb <;> rw [hc2] at b2 hcb <;> rw [hc3] at b3 <;> rw [hc4] at b4 <;>
            first
              | (exfalso; revert hcb; decide)
              | (exfalso; simp only [decide_eq_false_iff_not] at hc3 hc4; exact hd.elim hc3 hc4)
              | (clear hc hd hcb hc1 hc2 hc3 hc4
                 go_wp2_with (go_at_call 20; refine (refRow_any _ hz2 10 (by decide) _).mono ?_; rintro e w1 ⟨he, hB1⟩; rw [hv] at he; subst he)
                 go_ret
                 exact ⟨ret_bool rfl, hB1⟩))
      · rw [if_neg hd]
        have hc3 : decide (s[1] = 43) = false := by simp only [decide_eq_false_iff_not]; exact fun h => hd (.inl h)
        have hc4 : decide (s[1] = 45) = false := by simp only [decide_eq_false_iff_not]; exact fun h => hd (.inr h)
        rw [hc3] at b3
        rw [hc4] at b4
        cases hv : row 10 (s.extract 1 s.size).data.toList
        all_goals
          (cases hc1 : decide (s[0] = small) <;> cases hc2 : decide (s[0] = big) <;>
            rw [hc1] at b1 hcb <;> rw [hc2] at b2 hcb <;>
            first
              | (exfalso; revert hcb; decide)
              | (clear hc hd hcb hc1 hc2 hc3 hc4
                 go_wp2_with (go_at_call 20; refine (refRow_any _ hz1 10 (by decide) _).mono ?_; rintro e w1 ⟨he, hB1⟩; rw [hv] at he; subst he)
                 go_ret
                 exact ⟨ret_bool rfl, hB1⟩))
    · have hc1 : decide (s[0] = small) = false := by simp only [decide_eq_false_iff_not]; exact fun h => hc (.inl h)
      have hc2 : decide (s[0] = big) = false := by simp only [decide_eq_false_iff_not]; exact fun h => hc (.inr h)
      rw [hc1] at b1
      rw [hc2] at b2
      rw [hc1, hc2]
      clear hc1 hc2 hc
      go_wp2
      go_ret
      exact ⟨ret_bool rfl, Below.refl _ _⟩
end Go.Proofs.Ytakbhbhikknhkaa
