/-
  Layer 6: contracts of the document's number and small.
-/
import Derived.Test.YtpbkdgbmnffooaaL
namespace Go.Proofs.Ytpbkdgbmnffooaa
open Go.ChangeShapes Go.WideShapes Go.ChangeAt Go.RowKit

/-- what the document's number answers -/
def docNum : Option (Nat × List UInt8) → Int
  | some (n, _) => n
  | none => -1
theorem numOf_short (base : Nat) : ∀ (d n : Nat) (l : List UInt8), l.length < d → numOf base d n l = none
  | 0, _, _, h => absurd h (by omega)
  | _ + 1, _, [], _ => rfl
  | d + 1, n, c :: t, h => by
    unfold numOf
    split
    · exact numOf_short base d _ t (by simp at h; omega)
    · rfl

theorem wrap_small (x : Int) (h : 0 ≤ x) (h1 : x ≤ 4294967312) : wrap64 x = x := by unfold wrap64; omega
theorem wrap_two (n base dn : Nat) (h : n * base ≤ 268435456 * 16) (hd : dn ≤ 15) : wrap64 (wrap64 ((n : Int) * (base : Int)) + (dn : Int)) = ((n * base + dn : Nat) : Int) := by
  rw [show (n : Int) * (base : Int) = ((n * base : Nat) : Int) by simp]
  generalize n * base = p at h
  rw [wrap_small (p : Int) (by omega) (by omega), wrap_small ((p : Int) + (dn : Int)) (by omega) (by omega)]
  omega
set_option maxRecDepth 100000 in
set_option maxHeartbeats 4000000 in
theorem docnum_any (s : ByteArray) (hs : s.size ≤ 140737488351232) (k digits base : Nat) (hk : k ≤ s.size) (hd : digits ≤ 8) (hb : base ≤ 16) (w : World) :
    Calls Try.prog 42 #[.string s, .int .i64 k, .int .i64 digits, .int .i64 base] w fun e w' => e = .returned (.int .i64 (docNum (numOf base digits 0 (s.data.toList.drop k)))) ∧ Below w.heap.size w w' := by
  have hl : s.data.toList.length = s.size := by simp
  have w0 : IntKind.i64.wrap ((s.size : Int) - (k : Int)) = (s.size : Int) - (k : Int) := by rw [IntKind.wrap_i64]; omega
  by_cases hsh : s.size - k < digits
  · have hA : numOf base digits 0 (s.data.toList.drop k) = none := numOf_short base digits 0 _ (by rw [List.length_drop, hl]; exact hsh)
    have d0 : (s.size : Int) - (k : Int) < (digits : Int) := by omega
    rw [hA]
    clear hA hsh
    go_enter Try.func42, Try.ntmps42
    go_wp2
    go_ret
    exact ⟨rfl, Below.refl _ _⟩
  · have d0 : (digits : Int) ≤ (s.size : Int) - (k : Int) := by omega
    obtain ⟨A, hA⟩ : ∃ A, A = numOf base digits 0 (s.data.toList.drop k) := ⟨_, rfl⟩
    rw [← hA]
    have HA := Lib.hid (show A = numOf base (digits - 0) 0 (s.data.toList.drop (k + 0)) from hA)
    have HS := Lib.hid (show k + digits ≤ s.size by omega)
    clear hA hsh
    go_enter Try.func42, Try.ntmps42
    go_wp2
    go_loopg [9, 10, 11] digits (fun g nv iv _ wr => ∃ i n : Nat, g = digits - i ∧ i ≤ digits ∧ nv = .int .i64 n ∧ iv = .int .i64 i ∧ wr = w ∧ Hid (n < 16 ^ i) ∧ Hid (A = numOf base (digits - i) n (s.data.toList.drop (k + i))))
    case atStart => exact ⟨0, 0, rfl, Nat.zero_le _, rfl, rfl, rfl, Lib.hid (by decide), HA⟩
    case round =>
      obtain ⟨i, n, rfl, hi, rfl, rfl, rfl, hN, hAn⟩ := hrel
      by_cases hlt : i < digits
      · have hn7 : n < 268435456 := by
          have h1 := hN.out
          have h2 : 16 ^ i ≤ 16 ^ 7 := Nat.pow_le_pow_right (by decide) (by omega)
          have : (16 : Nat) ^ 7 = 268435456 := by decide
          omega
        obtain ⟨K, hK⟩ : ∃ K, K = k + i := ⟨_, rfl⟩
        have hin : K < s.size := by have := HS.out; omega
        have d1 : (i : Int) < digits := by omega
        have e1 : (k : Int) + (i : Int) = (K : Int) := by omega
        have d2 : (K : Int) < s.size := by omega
        have d3 : (0 : Int) ≤ K := by omega
        have hdr : s.data.toList.drop (k + i) = s[K] :: s.data.toList.drop (K + 1) := by rw [← hK]; exact drop_at s K hin
        have hst : A = numOf base ((digits - (i + 1)) + 1) n (s[K] :: s.data.toList.drop (K + 1)) := by
          rw [hAn.out, hdr, show digits - i = digits - (i + 1) + 1 by omega]
        have HWb := Lib.hid (show wrap64 (s[K].toNat : Int) = (s[K].toNat : Int) by have := s[K].toNat_lt; unfold wrap64; omega)
        have hHv := hex_le (s[K].toNat : Int)
        obtain ⟨D, hD⟩ : ∃ D, D = hexOf (s[K].toNat : Int) := ⟨_, rfl⟩
        have hbs := fun w => rbase_any (s[K].toNat : Int) w
        rw [← hD] at hHv hbs
        by_cases hok : 0 ≤ D ∧ D < base
        · have hA2 : A = numOf base (digits - (i + 1)) (n * base + D.toNat) (s.data.toList.drop (K + 1)) := by
            rw [hst, numOf_step (by rw [← hD]; exact hok), ← hD]
          obtain ⟨dn, hdn⟩ : ∃ dn : Nat, D = (dn : Int) := ⟨D.toNat, by omega⟩
          subst hdn
          have hA3 := Lib.hid (show A = numOf base (digits - (i + 1)) (n * base + dn) (s.data.toList.drop (k + (i + 1))) by
            rw [hA2, hK]; rfl)
          have hdb : dn < base := by omega
          have hN2 := Lib.hid (show n * base + dn < 16 ^ (i + 1) by
            have h1 := hN.out
            have h2 : n * base ≤ n * 16 := Nat.mul_le_mul_left n hb
            rw [Nat.pow_succ]
            omega)
          have hmul : n * base ≤ 268435456 * 16 := Nat.mul_le_mul (by omega) hb
          have d4 : ¬ (dn : Int) < 0 := by omega
          have d5 : ¬ (base : Int) ≤ (dn : Int) := by omega
          have HW3 := Lib.hid (show wrap64 (wrap64 ((n : Int) * (base : Int)) + (dn : Int)) = ((n * base + dn : Nat) : Int) from wrap_two n base dn hmul (by omega))
          clear hA2 hst hdr hD hok hmul hAn hN hK
          go_wp2_with (go_at_call 47; rw [HWb.out]; refine (hbs _).mono ?_; rintro e w1 ⟨rfl, rfl⟩)
          go_roundg (digits - (i + 1))
          case measure => omega
          case rel => exact ⟨i + 1, n * base + dn, rfl, by omega, by rw [HW3.out], by go_num, rfl, hN2, hA3⟩
        · have hAz : A = none := by rw [hst, numOf_stop (by rw [← hD]; exact hok)]
          subst hAz
          clear hst hdr hD hAn hN hK
          by_cases hneg : D < 0
          · clear hok
            go_wp2_with (go_at_call 47; rw [HWb.out]; refine (hbs _).mono ?_; rintro e w1 ⟨rfl, rfl⟩)
            go_ret
            exact ⟨rfl, Below.refl _ _⟩
          · have d5 : (base : Int) ≤ D := by omega
            clear hok
            go_wp2_with (go_at_call 47; rw [HWb.out]; refine (hbs _).mono ?_; rintro e w1 ⟨rfl, rfl⟩)
            go_ret
            exact ⟨rfl, Below.refl _ _⟩
      · have he : i = digits := by omega
        have hAz : A = some (n, s.data.toList.drop (k + digits)) := by rw [hAn.out, he, Nat.sub_self]; rfl
        subst hAz
        clear hAn hN
        go_wp2
        go_ret
        exact ⟨rfl, Below.refl _ _⟩
end Go.Proofs.Ytpbkdgbmnffooaa
