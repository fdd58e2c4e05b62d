/-
  Layer 8: contracts of the document's Silent and ended.
-/
import Derived.Test.YtbkmlldhjchhjaaGreatTj
import Derived.Test.YtbkmlldhjchhjaaGreatZa
namespace Go.Proofs.YtbkmlldhjchhjaaGreat
open Go.ChangeShapes Go.WideShapes Go.ChangeAt Go.RowKit

set_option maxHeartbeats 4000000 in
theorem rsilent_any (K : Nat) (w : World) :
    Calls Tryz.prog 20 #[.int .u8 K] w fun e w' => e = .returned (.bool (silentB K)) ∧ w' = w := by
  by_cases h1 : 10 ≤ K
  · by_cases h2 : K ≤ 12
    · have hs : silentB K = true := decide_eq_true (by omega)
      have k1 : (10 : Int) ≤ K := by omega
      have k2 : (K : Int) ≤ 12 := by omega
      rw [hs]
      clear hs h1 h2
      go_enter Tryz.func20, Tryz.ntmps20
      go_wp2
      go_ret
      exact ⟨rfl, rfl⟩
    · have hs : silentB K = false := decide_eq_false (by omega)
      have k1 : (10 : Int) ≤ K := by omega
      have k2 : ¬ (K : Int) ≤ 12 := by omega
      rw [hs]
      clear hs h1 h2
      go_enter Tryz.func20, Tryz.ntmps20
      go_wp2
      go_ret
      exact ⟨rfl, rfl⟩
  · have hs : silentB K = false := decide_eq_false (by omega)
    have k1 : ¬ (10 : Int) ≤ K := by omega
    rw [hs]
    clear hs h1
    go_enter Tryz.func20, Tryz.ntmps20
    go_wp2
    go_ret
    exact ⟨rfl, rfl⟩
set_option maxRecDepth 100000 in
set_option maxHeartbeats 8000000 in
theorem rended_any (s : ByteArray) (a : Option Addr) (n ca : Nat) (T : List (Nat × Nat × Nat)) (hn : T.length = n) (i : Nat) (hi : i < n) (hn2 : n ≤ 4611686018427387904) (hs : s.size ≤ 4611686018427387904) (hb : ∀ x ∈ T, x.2.1 ≤ x.2.2 ∧ x.2.2 ≤ s.size) (w : World) (hT : Toks w a T) :
    Calls Tryz.prog 22 #[.string s, .slice a n ca, .int .i64 i] w fun e w' => e = .returned (.bool (endedB s.data.toList (T.drop (i + 1)))) ∧ w' = w := by
  have HN := Lib.hid hn
  have HB := Lib.hid hb
  have HT := Lib.hid hT
  obtain ⟨A, hA⟩ : ∃ A, A = endedB s.data.toList (T.drop (i + 1)) := ⟨_, rfl⟩
  rw [← hA]
  have HA := Lib.hid hA
  clear hn hb hT hA
  go_enter Tryz.func22, Tryz.ntmps22
  go_wp2
  go_loopw [7] (fun kv wr => ∃ k : Nat, i < k ∧ k ≤ n ∧ kv = .int .i64 k ∧ Hid (endedB s.data.toList (T.drop k) = A) ∧ wr = w) (fun kv _ => n - (intOf kv).toNat)
  case atStart => exact ⟨i + 1, by omega, by omega, by go_num, Lib.hid HA.out.symm, rfl⟩
  case round =>
    clear HA
    obtain ⟨k, hk1, hk2, rfl, HA, rfl⟩ := hrel
    have m0 : (0 : Int) ≤ k := by omega
    by_cases hlt : k < n
    · have j1 : (k : Int) < n := by omega
      obtain ⟨⟨K, p, z⟩, hx⟩ : ∃ x, T[k]? = some x := ⟨T[k]'(by rw [HN.out]; exact hlt), List.getElem?_eq_getElem (by rw [HN.out]; exact hlt)⟩
      obtain ⟨hb1, hb2⟩ := HB.out _ (List.mem_of_getElem? hx)
      dsimp only at hb1 hb2
      obtain ⟨g, rfl, c0, c1, c2⟩ := HT.out k _ hx
      dsimp only at c0 c1 c2
      cases hk : silentB K with
      | false =>
        have hA := HA.out
        rw [ended_loud hx hk] at hA
        subst hA
        have hsil := fun w => rsilent_any K w
        rw [hk] at hsil
        clear hx hk HA
        go_wp2_with (go_at_call 20; refine (hsil _).mono ?_; rintro e w1 ⟨rfl, rfl⟩)
        go_ret
        exact ⟨rfl, rfl⟩
      | true =>
        have hA := HA.out
        rw [ended_silent hx hk, show (textAt s.data.toList (K, p, z)).contains 10 = tenB s.data.toList p z from rfl] at hA
        have HX := Lib.hid hA
        have hsil := fun w => rsilent_any K w
        rw [hk] at hsil
        clear hx hk HA hA
        go_wp2_with (go_at_call 20; refine (hsil _).mono ?_; rintro e w1 ⟨rfl, rfl⟩)
        go_loopw [8] (fun bv wy => ∃ b : Nat, p ≤ b ∧ b ≤ z ∧ bv = .int .i64 b ∧ Hid (tenB s.data.toList b z = tenB s.data.toList p z) ∧ wy = w1) (fun bv _ => z - (intOf bv).toNat)
        case atStart => exact ⟨p, Nat.le_refl _, hb1, rfl, Lib.hid rfl, rfl⟩
        case round =>
          obtain ⟨b, hb3, hb4, rfl, HY, rfl⟩ := hrel
          have b0 : (0 : Int) ≤ b := by omega
          by_cases hbz : b < z
          · have y1 : (b : Int) < z := by omega
            have hbs : b < s.size := by omega
            obtain ⟨c, hc⟩ : ∃ c, s.data.toList[b]? = some c := ⟨s.data.toList[b]'(by simpa using hbs), List.getElem?_eq_getElem (by simpa using hbs)⟩
            have hsb : s[b] = c := by
              have h := (List.getElem?_eq_some_iff.1 hc).2
              rw [← h]; rfl
            have hst := ten_step hbz hc
            by_cases h10 : c = 10
            · have hf := HX.out
              rw [← HY.out, hst, h10, show ((10 : UInt8) == 10 || tenB s.data.toList (b + 1) z) = true from rfl, if_pos rfl] at hf
              subst hf
              have hq : ((s[b].toNat : Int) == 10) = true := by rw [hsb, h10]; rfl
              clear hst hsb hc h10
              go_wp2
              go_ret
              exact ⟨rfl, rfl⟩
            · have HZ := Lib.hid (show tenB s.data.toList (b + 1) z = tenB s.data.toList p z by
                rw [← HY.out, hst, show (c == 10) = false by simpa using h10, Bool.false_or])
              have hq : ((s[b].toNat : Int) == 10) = false := by
                have h9 : c.toNat ≠ 10 := fun e => h10 (UInt8.toNat_inj.1 (show c.toNat = (10 : UInt8).toNat from e))
                rw [hsb]; simp; omega
              clear hst hsb hc h10
              go_wp2
              go_roundw
              case rel => exact ⟨b + 1, by omega, by omega, by go_num, HZ, by trivial⟩
              case measure => simp [intOf]; omega
          · obtain rfl : b = z := by omega
            have hf := HX.out
            rw [← HY.out, ten_end, if_neg (by decide)] at hf
            go_wp2
            go_roundw
            case rel => exact ⟨k + 1, by omega, by omega, by go_num, Lib.hid hf, by trivial⟩
            case measure => simp [intOf]; omega
    · obtain rfl : k = n := by omega
      have hA := HA.out
      rw [← HN.out, ended_all] at hA
      subst hA
      go_wp2
      go_ret
      exact ⟨rfl, rfl⟩
end Go.Proofs.YtbkmlldhjchhjaaGreat
