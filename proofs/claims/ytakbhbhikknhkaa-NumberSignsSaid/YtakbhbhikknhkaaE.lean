/-
  Layer 5: contract of the document's Row.
-/
import Derived.Test.YtakbhbhikknhkaaD
import Derived.BigCall
import Derived.BigGuard
namespace Go.Proofs.Ytakbhbhikknhkaa
open Go.ChangeShapes Go.WideShapes Go.ChangeAt Go.RowKit

theorem at_of (s : ByteArray) (k : Nat) (h : k < s.size) : s.data.toList[k]? = some s[k] := by
  rw [List.getElem?_eq_getElem (by simpa using h)]; simp [ByteArray.getElem_eq_getElem_data]
set_option maxHeartbeats 4000000 in
theorem refRow_any (s : ByteArray) (hs : s.size ≤ 1048576) (base : Nat) (hb : base ≤ 16) (w : World) :
    Calls Try.prog 20 #[.string s, .int .i64 base] w fun e w' => e = .returned (.bool (row base s.data.toList)) ∧ Below w.heap.size w w' := by
  have hlen : s.data.toList.length = s.size := by simp
  go_enter Try.func20, Try.ntmps20
  by_cases h0 : s.size = 0
  · have hr : row base s.data.toList = false := by
      have : s.data.toList = [] := List.eq_nil_of_length_eq_zero (by omega)
      rw [this]; rfl
    have d0 : ((s.size : Int) == 0) = true := by rw [h0]; rfl
    go_wp2
    go_ret
    exact ⟨ret_bool hr.symm, Below.refl _ _⟩
  · have d0 : ((s.size : Int) == 0) = false := by rw [beq_eq_false_iff_ne]; omega
    obtain ⟨n, hn⟩ : ∃ n, s.size = n + 1 := ⟨s.size - 1, by omega⟩
    have e1 : (s.size : Int) - 1 = n := by omega
    have HN := Lib.hid hn
    have i0 : 0 < s.size := by omega
    have i1 : n < s.size := by omega
    clear hn
    cases hd0 : dig base s[0] with
    | false =>
      have hr : row base s.data.toList = false := by
        cases hh : row base s.data.toList with
        | false => rfl
        | true => obtain ⟨c, h1, h2⟩ := row_head hh
                  rw [at_of s 0 i0] at h1; cases h1; rw [hd0] at h2; cases h2
      go_wp2_with (go_at_call 33; refine (digit_any _ base hb _).mono ?_; rintro e w1 ⟨he, hB1⟩; rw [hd0] at he; subst he)
      go_ret
      exact ⟨ret_bool hr.symm, hB1⟩
    | true =>
      cases hd1 : dig base s[n] with
      | false =>
        have hr : row base s.data.toList = false := by
          cases hh : row base s.data.toList with
          | false => rfl
          | true => obtain ⟨c, h1, h2⟩ := row_last hh
                    rw [hlen, show s.size - 1 = n by have := HN.out; omega, at_of s n i1] at h1; cases h1; rw [hd1] at h2; cases h2
        have tok : True := trivial
        go_wp2_with (first
          | (go_at_call 33; clear tok; refine (digit_any _ base hb _).mono ?_; rintro e w1 ⟨he, hB1⟩; rw [hd0] at he; subst he)
          | (go_at_call 33; refine (digit_any _ base hb _).mono ?_; rintro e w2 ⟨he, hB2⟩; rw [hd1] at he; subst he))
        go_ret
        exact ⟨ret_bool hr.symm, below_chain hB1 hB2⟩
      | true =>
        have tok : True := trivial
        go_wp2_with (first
          | (go_at_call 33; clear tok; refine (digit_any _ base hb _).mono ?_; rintro e w1 ⟨he, hB1⟩; rw [hd0] at he; subst he)
          | (go_at_call 33; refine (digit_any _ base hb _).mono ?_; rintro e w2 ⟨he, hB2⟩; rw [hd1] at he; subst he))
        have hB0 := below_chain hB1 hB2
        clear hB1 hB2
        have HD0 := Lib.hid hd0
        have HD1 := Lib.hid hd1
        clear hd0 hd1
        go_loopw [5] (fun ii wr => ∃ k : Nat, k ≤ s.size ∧ ii = .int .i64 k ∧ Below w.heap.size w wr ∧ Hid (row base s.data.toList = rest base s.data.toList k) ∧ Hid (∀ j x, k = j + 1 → s.data.toList[j]? = some x → x = 95 ∨ dig base x = true)) (fun ii _ => s.size - (intOf ii).toNat)
        case atStart => exact ⟨0, Nat.zero_le _, rfl, hB0, Lib.hid rfl, Lib.hid fun j x h => by cases h⟩
        case round =>
          obtain ⟨k, hk, rfl, hBl, hR, hP⟩ := hrel
          by_cases hlt : k < s.size
          · have ik : k < s.size := hlt
            have hx := Lib.hid (at_of s k ik)
            by_cases h95 : s[k] = 95
            · match k, hk, hR, hP, hlt, ik, hx, h95 with
              | 0, _, _, _, _, _, _, h95 => have := HD0.out; rw [h95, dig_bar hb] at this; cases this
              | j + 1, hk, hR, hP, hlt, ik, hx, h95 =>
                have e2 : ((j + 1 : Nat) : Int) - 1 = j := by omega
                have ij : j < s.size := by omega
                have d1 : ((s[j + 1].toNat : Int) == 95) = true := by rw [h95]; rfl
                have hc : s.data.toList[j + 1]? = some 95 := by rw [hx.out, h95]
                have hj := at_of s j ij
                by_cases h2 : s[j] = 95
                · have d2 : ((s[j].toNat : Int) == 95) = true := by rw [h2]; rfl
                  have hd : dig base s[j + 1] = false := by rw [h95]; exact dig_bar hb
                  have hf : row base s.data.toList = false := by
                    rw [hR.out]; exact rest_none hc (dig_bar hb) fun _ => ⟨j, rfl, by rw [hj, h2]⟩
                  clear h95 h2 hj hc
                  go_wp2_with (go_at_call 33; refine (digit_any _ base hb _).mono ?_; rintro e w3 ⟨he, hB3⟩; rw [hd] at he; subst he)
                  go_ret
                  exact ⟨ret_bool hf.symm, hBl.trans (hB3.mono hBl.size)⟩
                · have d2 : ((s[j].toNat : Int) == 95) = false := by
                    rw [beq_eq_false_iff_ne]; intro h; exact h2 (UInt8.toNat_inj.1 (by show s[j].toNat = 95; omega))
                  have hdj : dig base s[j] = true := (hP.out j _ rfl hj).resolve_left h2
                  have hf : row base s.data.toList = rest base s.data.toList (j + 2) := by
                    rw [hR.out]; exact rest_bar hc hj h2 hdj
                  have hf := Lib.hid hf
                  have hc := Lib.hid hc
                  clear h95 h2 hj hdj
                  go_wp2
                  go_roundw
                  case rel => exact ⟨j + 2, by omega, by go_num, hBl, hf, Lib.hid fun i x h1 h2 => by
                    obtain rfl : i = j + 1 := by omega
                    rw [hc.out] at h2; cases h2; exact .inl rfl⟩
                  case measure => simp [intOf]; omega
            · have d1 : ((s[k].toNat : Int) == 95) = false := by
                rw [beq_eq_false_iff_ne]; intro h; exact h95 (UInt8.toNat_inj.1 (by show s[k].toNat = 95; omega))
              cases hd : dig base s[k] with
              | false =>
                have hf : row base s.data.toList = false := by
                  rw [hR.out]; exact rest_none hx.out hd fun h => absurd h h95
                clear h95
                go_wp2_with (go_at_call 33; refine (digit_any _ base hb _).mono ?_; rintro e w3 ⟨he, hB3⟩; rw [hd] at he; subst he)
                go_ret
                exact ⟨ret_bool hf.symm, hBl.trans (hB3.mono hBl.size)⟩
              | true =>
                have hf := Lib.hid (hR.out.trans (rest_digit hb hx.out hd hP.out))
                clear h95
                go_wp2_with (go_at_call 33; refine (digit_any _ base hb _).mono ?_; rintro e w3 ⟨he, hB3⟩; rw [hd] at he; subst he)
                go_roundw
                case rel => exact ⟨k + 1, by omega, by go_num, hBl.trans (hB3.mono hBl.size), hf, Lib.hid fun i x h1 h2 => by
                  obtain rfl : i = k := by omega
                  rw [hx.out] at h2; cases h2; exact .inr hd⟩
                case measure => simp [intOf]; omega
          · have hkn : k = n + 1 := by have := HN.out; omega
            have hks : ¬ (k : Int) < s.size := by omega
            have hr : row base s.data.toList = true := by
              rw [hR.out, hkn]; exact rest_end hb (by have := HN.out; omega) (at_of s n i1) HD1.out
            have hr := Lib.hid hr
            clear hkn
            go_wp2
            go_ret
            exact ⟨by first | rfl | exact ret_bool hr.out.symm, hBl⟩
end Go.Proofs.Ytakbhbhikknhkaa
