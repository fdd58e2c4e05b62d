/-
  Layer 6: contract of the reader's number.
-/
import Derived.Test.YtpbkdgbmnffooaaA
namespace Go.Proofs.Ytpbkdgbmnffooaa
open Go.ChangeShapes Go.WideShapes Go.ChangeAt Go.RowKit

/-- what number answers -/
def numAns (o : Option (Nat × List UInt8)) : Ending :=
  match o with
  | some (n, _) => .returned (.tuple #[.int .i64 n, .bool true])
  | none => .returned (.tuple #[.int .i64 0, .bool false])
theorem numOf_step {base d n : Nat} {c : UInt8} {t : List UInt8} (h : 0 ≤ hexOf c.toNat ∧ hexOf c.toNat < base) : numOf base (d + 1) n (c :: t) = numOf base d (n * base + (hexOf c.toNat).toNat) t := by
  conv => lhs; unfold numOf
  rw [if_pos h]
theorem numOf_stop {base d n : Nat} {c : UInt8} {t : List UInt8} (h : ¬ (0 ≤ hexOf c.toNat ∧ hexOf c.toNat < base)) : numOf base (d + 1) n (c :: t) = none := by
  conv => lhs; unfold numOf
  rw [if_neg h]
theorem drop_at (s : ByteArray) (k : Nat) (h : k < s.size) : s.data.toList.drop k = s[k] :: s.data.toList.drop (k + 1) := by
  rw [List.drop_eq_getElem_cons (by simpa using h)]; simp [ByteArray.getElem_eq_getElem_data]

set_option maxRecDepth 100000 in
set_option maxHeartbeats 4000000 in
theorem number_any (s : ByteArray) (hs : s.size ≤ 140737488355328) (digits base : Nat) (hd : digits ≤ 8) (hb : base ≤ 16) (b k : Nat) (v : Value) (T : List UInt8) (w : World) (hR : Rd w b s k v T) :
    Calls Try.prog 37 #[.pointer (some ⟨b, 0, none⟩), .int .i64 digits, .int .i64 base] w fun e w' => e = numAns (numOf base digits 0 (s.data.toList.drop k)) ∧ (∀ n r, numOf base digits 0 (s.data.toList.drop k) = some (n, r) → Rd w' b s (k + digits) v T) ∧ Below b w w' := by
  obtain ⟨A, hA⟩ : ∃ A, A = numOf base digits 0 (s.data.toList.drop k) := ⟨_, rfl⟩
  rw [← hA]
  have HA := Lib.hid (show A = numOf base (digits - 0) 0 (s.data.toList.drop (k + 0)) from hA)
  have HR := Lib.hid hR
  clear hA hR
  go_enter Try.func37, Try.ntmps37
  go_wp2
  go_loopg [8, 11] digits (fun g nv iv wr => ∃ i n : Nat, g = digits - i ∧ i ≤ digits ∧ nv = .int .i64 n ∧ iv = .int .i64 i ∧ Hid (Rd wr b s (k + i) v T) ∧ Below b w wr ∧ Hid (n < 16 ^ i) ∧ Hid (A = numOf base (digits - i) n (s.data.toList.drop (k + i))))
  case atStart => exact ⟨0, 0, rfl, Nat.zero_le _, rfl, rfl, HR, Below.refl _ _, Lib.hid (by decide), HA⟩
  case round =>
    obtain ⟨i, n, rfl, hi, rfl, rfl, hRd, hB, hN, hAn⟩ := hrel
    by_cases hlt : i < digits
    · have hn7 : n < 268435456 := by
        have h1 := hN.out
        have h2 : 16 ^ i ≤ 16 ^ 7 := Nat.pow_le_pow_right (by decide) (by omega)
        have : (16 : Nat) ^ 7 = 268435456 := by decide
        omega
      have c0 := hRd.out.c0
      have c1 := hRd.out.c1
      have f1 := hRd.out.f 1
      have hks := hRd.out.hk
      obtain ⟨K, hK⟩ : ∃ K, K = k + i := ⟨_, rfl⟩
      rw [← hK] at c1 hks
      by_cases hin : K < s.size
      · have d1 : decide (s.size ≤ K) = false := decide_eq_false (by omega)
        have d2 : (K : Int) < s.size := by omega
        have d3 : (0 : Int) ≤ K := by omega
        have hdr : s.data.toList.drop (k + i) = s[K] :: s.data.toList.drop (K + 1) := by rw [← hK]; exact drop_at s K hin
        have hst : A = numOf base ((digits - (i + 1)) + 1) n (s[K] :: s.data.toList.drop (K + 1)) := by
          rw [hAn.out, hdr, show digits - i = digits - (i + 1) + 1 by omega]
        have w0 : IntKind.i32.wrap (s[K].toNat : Int) = (s[K].toNat : Int) := by
          have := s[K].toNat_lt
          rw [IntKind.wrap_i32]; omega
        have hHv := hex_le (s[K].toNat : Int)
        obtain ⟨D, hD⟩ : ∃ D, D = hexOf (s[K].toNat : Int) := ⟨_, rfl⟩
        have hbs := fun w => base_any (s[K].toNat : Int) w
        rw [← hD] at hHv hbs
        by_cases hok : 0 ≤ D ∧ D < base
        · have hA2 : A = numOf base (digits - (i + 1)) (n * base + D.toNat) (s.data.toList.drop (K + 1)) := by
            rw [hst, numOf_step (by rw [← hD]; exact hok), ← hD]
          obtain ⟨dn, hdn⟩ : ∃ dn : Nat, D = (dn : Int) := ⟨D.toNat, by omega⟩
          subst hdn
          have hA3 := Lib.hid (show A = numOf base (digits - (i + 1)) (n * base + dn) (s.data.toList.drop (k + (i + 1))) by
            rw [hA2, hK]; rfl)
          have hdb : dn < base := by omega
          have hN2 := Lib.hid (show n * base + dn < 16 ^ (i + 1) by
            have h1 := hN.out
            have h2 : n * base ≤ n * 16 := Nat.mul_le_mul_left n hb
            rw [Nat.pow_succ]
            omega)
          have hmul : n * base ≤ 268435456 * 16 := Nat.mul_le_mul (by omega) hb
          have w2 : IntKind.i64.wrap ((n : Int) * (base : Int)) = ((n * base : Nat) : Int) := by rw [IntKind.wrap_i64]; omega
          have w3 : IntKind.i64.wrap (((n * base : Nat) : Int) + (dn : Int)) = ((n * base + dn : Nat) : Int) := by rw [IntKind.wrap_i64]; omega
          have hRm := Lib.hid (show ∀ m, Rd ((wr.drewN m).setCell ⟨b, 1, none⟩ (.int .i64 ((K + 1 : Nat) : Int))) b s (k + (i + 1)) v T by
            intro m
            have := (hRd.out.drewN m).move (K + 1) (by omega)
            rw [hK] at this ⊢
            exact this)
          have hBm := Lib.hid (show ∀ m, Below b w ((wr.drewN m).setCell ⟨b, 1, none⟩ (.int .i64 ((K : Int) + 1))) from fun m => (below_drewN hB m).setCell (p := ⟨b, 1, none⟩) (Nat.le_refl _) _)
          have d4 : ¬ (dn : Int) < 0 := by omega
          have d5 : ¬ (base : Int) ≤ (dn : Int) := by omega
          have HW3 := Lib.hid (show wrap64 ((n : Int) * (base : Int) + (dn : Int)) = ((n * base + dn : Nat) : Int) by
            have e : (n : Int) * (base : Int) = ((n * base : Nat) : Int) := by simp
            rw [e]; unfold wrap64; omega)
          clear hA2 hst hdr hD hok hmul hAn hN hK
          go_upto_region 4 with fail
          go_quiet (fail)
          go_upto_region 6 with fail
          go_quiet ((go_at_call 44; refine (hbs _).mono ?_; rintro e w' ⟨rfl, rfl⟩; exact ⟨rfl, _, rfl⟩))
          go_wp2
          go_roundg (digits - (i + 1))
          case measure => omega
          case rel => exact ⟨i + 1, n * base + dn, rfl, by omega, by rw [HW3.out], by go_num, Lib.hid (hRm.out _), hBm.out _, hN2, hA3⟩
        · have hAz : A = none := by rw [hst, numOf_stop (by rw [← hD]; exact hok)]
          subst hAz
          clear hst hdr hD hAn hN hK
          by_cases hneg : D < 0
          · clear hok
            go_upto_region 4 with fail
            go_quiet (fail)
            go_upto_region 6 with fail
            go_quiet ((go_at_call 44; refine (hbs _).mono ?_; rintro e w' ⟨rfl, rfl⟩; exact ⟨rfl, _, rfl⟩))
            go_wp2
            go_ret2
            first
              | exact ⟨rfl, fun _ _ h => (by cases h), below_drewN hB _⟩
              | exact ⟨rfl, below_drewN hB _⟩
          · have d5 : (base : Int) ≤ D := by omega
            clear hok
            go_upto_region 4 with fail
            go_quiet (fail)
            go_upto_region 6 with fail
            go_quiet ((go_at_call 44; refine (hbs _).mono ?_; rintro e w' ⟨rfl, rfl⟩; exact ⟨rfl, _, rfl⟩))
            go_wp2
            go_ret2
            first
              | exact ⟨rfl, fun _ _ h => (by cases h), below_drewN hB _⟩
              | exact ⟨rfl, below_drewN hB _⟩
      · have d1 : decide (s.size ≤ K) = true := decide_eq_true (by omega)
        have hAz : A = none := by
          rw [hAn.out, List.drop_of_length_le (by simp; omega), show digits - i = (digits - i - 1) + 1 by omega]; rfl
        subst hAz
        go_upto_region 4 with fail
        go_quiet (fail)
        go_wp2
        go_ret2
        exact ⟨rfl, fun _ _ h => (by cases h), below_drewN hB _⟩
    · have hid : i = digits := by omega
      have hAz : A = some (n, s.data.toList.drop (k + digits)) := by rw [hAn.out, hid, Nat.sub_self]; rfl
      subst hAz
      have hRe := Lib.hid (show Rd _ b s (k + digits) v T by rw [← hid]; exact hRd.out)
      go_wp2
      go_ret2
      exact ⟨rfl, fun _ _ _ => hRe.out, hB⟩
end Go.Proofs.Ytpbkdgbmnffooaa
