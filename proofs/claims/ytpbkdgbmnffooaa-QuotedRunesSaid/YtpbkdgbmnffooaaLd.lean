/-
  Layer 6: the law QuotedRunes: the digits, and what escapes of numbers say.
-/
import Derived.Test.YtpbkdgbmnffooaaZ
import Derived.Test.YtpbkdgbmnffooaaMb
namespace Go.Proofs.Ytpbkdgbmnffooaa
open Go.ChangeShapes Go.WideShapes Go.ChangeAt Go.RowKit

/-- a digit of base 16, as the law writes it -/
def dig (n : Nat) : UInt8 := #[48, 49, 50, 51, 52, 53, 54, 55, 56, 57, 97, 66, 99, 68, 101, 70].getD n 0
theorem dig_at (n : Nat) (h : n < 16) : (⟨#[48, 49, 50, 51, 52, 53, 54, 55, 56, 57, 97, 66, 99, 68, 101, 70]⟩ : ByteArray)[n]'h = dig n := by
  have h1 : ∀ n : Fin 16, (⟨#[48, 49, 50, 51, 52, 53, 54, 55, 56, 57, 97, 66, 99, 68, 101, 70]⟩ : ByteArray)[n.1]'n.2 = dig n.1 := by decide
  exact h1 ⟨n, h⟩
theorem dig_hex (n : Nat) (h : n < 16) : hexOf ((dig n).toNat : Int) = (n : Int) := by
  have h1 : ∀ n : Fin 16, hexOf ((dig n.1).toNat : Int) = ((n.1 : Nat) : Int) := by decide
  exact h1 ⟨n, h⟩
/-- so many digits of a number -/
def hexs : Nat → Nat → List UInt8
  | 0, _ => []
  | i + 1, n => dig (n / 16 ^ i % 16) :: hexs i n
theorem hexs_len : ∀ i n, (hexs i n).length = i
  | 0, _ => rfl
  | i + 1, n => by rw [hexs, List.length_cons, hexs_len i n]
theorem hexs_num : ∀ (i m n : Nat) (t : List UInt8), numOf 16 i m (hexs i n ++ t) = some (m * 16 ^ i + n % 16 ^ i, t)
  | 0, m, n, t => by simp [hexs, numOf, Nat.mod_one]
  | i + 1, m, n, t => by
    have h := dig_hex (n / 16 ^ i % 16) (Nat.mod_lt _ (by decide))
    have hlt : n / 16 ^ i % 16 < 16 := Nat.mod_lt _ (by decide)
    rw [hexs, List.cons_append, numOf_step (by rw [h]; omega), h, hexs_num i, Int.toNat_natCast]
    congr 2
    rw [Nat.pow_succ, Nat.mod_mul, Nat.add_mul, Nat.mul_assoc, Nat.mul_comm 16 (16 ^ i), Nat.mul_comm (n / 16 ^ i % 16) (16 ^ i)]
    omega
set_option maxHeartbeats 4000000 in
theorem hex_any (n : Nat) (hn : n < 4294967296) (w : World) :
    Calls Try.prog 18 #[.int .i64 n, .int .i64 8] w fun e w' => e = .returned (.string ⟨(hexs 8 n).toArray⟩) ∧ Below w.heap.size w w' := by
  go_enter Try.func18, Try.ntmps18
  go_wp2
  go_loopw [0, 5, 6] (fun nv sv iv wr => ∃ i : Nat, i ≤ 8 ∧ nv = .int .i64 ((n / 16 ^ i : Nat) : Int) ∧ sv = .string ⟨(hexs i n).toArray⟩ ∧ iv = .int .i64 i ∧ Below w.heap.size w wr) (fun _ _ iv _ => 8 - (intOf iv).toNat)
  case atStart => exact ⟨0, by omega, by simp, rfl, rfl, Below.refl _ _⟩
  case round =>
    obtain ⟨i, hi, rfl, rfl, rfl, hB⟩ := hrel
    obtain ⟨N, hN⟩ : ∃ N, N = n / 16 ^ i := ⟨_, rfl⟩
    rw [← hN]
    have hNl : N < 4294967296 := by rw [hN]; exact Nat.lt_of_le_of_lt (Nat.div_le_self _ _) hn
    by_cases hlt : i < 8
    · have i1 : (i : Int) < 8 := by omega
      obtain ⟨S, hS⟩ : ∃ S : ByteArray, S = ⟨(hexs i n).toArray⟩ := ⟨_, rfl⟩
      have hSs : S.size ≤ 8 := by
        have : S.size = (hexs i n).length := by rw [hS]; rfl
        rw [this, hexs_len]; omega
      obtain ⟨d, hd⟩ : ∃ d, d = N % 16 := ⟨_, rfl⟩
      have hdl : d < 16 := by omega
      obtain ⟨M, hM⟩ : ∃ M, M = N / 16 := ⟨_, rfl⟩
      have hnx := Lib.hid (show M = n / 16 ^ (i + 1) by rw [hM]; symm; rw [Nat.pow_succ, ← Nat.div_div_eq_div_mul, hN])
      have hst := Lib.hid (show (⟨(hexs (i + 1) n).toArray⟩ : ByteArray) = ⟨#[dig d]⟩ ++ S by
        rw [hS, hexs, hd, hN]
        apply ByteArray.ext
        rw [ByteArray.data_append]
        apply Array.ext'
        simp)
      rw [← hS]
      have e1 : (N : Int) % 16 = (d : Int) := by omega
      have e2 : (N : Int) / 16 = (M : Int) := by omega
      have x1 := dig_at d hdl
      have hcv := conv_new wr [((dig d).toNat : Int)] _ 1 rfl rfl
      simp only [List.map_cons, List.map_nil, Int.toNat_natCast, UInt8.ofNat_toNat] at hcv
      clear hN hS hd hM
      go_wp2
      go_roundw
      case rel => exact ⟨i + 1, by omega, by rw [← hnx.out], by rw [hst.out], by go_num, hB.alloc hB.size _⟩
      case measure => simp [intOf]; omega
    · have hi8 : i = 8 := by omega
      subst hi8
      clear hN
      go_wp2
      go_ret
      exact ⟨rfl, hB⟩
theorem esc_num (m : UInt8) (n : Nat) (hn : n < 4294967296) (t : List UInt8) : escOf m 1 (85 :: (hexs 8 n ++ t)) = if isChar (n : Int) = true then some (form n, 10) else none := by
  rw [esc_u m 85 (.inr rfl), show digitsOf 85 = 8 from rfl, hexs_num 8 0 n t, Option.bind_some]
  have h16 : (16 : Nat) ^ 8 = 4294967296 := by decide
  rw [h16, Nat.zero_mul, Nat.zero_add, Nat.mod_eq_of_lt hn]
/-- a number's escape in a rune -/
theorem rune_num (n : Nat) (hn : n < 4294967296) : valueP (39 :: 92 :: 85 :: (hexs 8 n ++ [39])) = if isChar (n : Int) = true then some (form n) else none := by
  unfold valueP
  rw [if_pos (by rfl)]
  unfold readOf
  rw [show (39 :: 92 :: 85 :: (hexs 8 n ++ [39]))[0]? = some (39 : UInt8) from rfl, if_neg (by decide), if_neg (by decide), if_pos rfl, Nat.zero_add,
    rune_step (c := 92) rfl (by decide), show ((39 : UInt8) :: 92 :: 85 :: (hexs 8 n ++ [39])).drop (1 + 1) = 85 :: (hexs 8 n ++ [39]) from rfl]
  have hd : docItem 39 92 (85 :: (hexs 8 n ++ [39])) = if isChar (n : Int) = true then some (form n, 10) else none := by
    unfold docItem
    rw [if_pos rfl, esc_num 39 n hn]
  rw [hd]
  split
  · have hc : closeOf (39 :: 92 :: 85 :: (hexs 8 n ++ [39])) (1 + 10) (form n) = some (form n, 12) := by
      unfold closeOf
      have hl := hexs_len 8 n
      rw [show 1 + 10 = 8 + 3 from rfl, List.getElem?_cons_succ, List.getElem?_cons_succ, List.getElem?_cons_succ, List.getElem?_append_right (by omega), hl, if_pos (by rfl)]
    show valueOf _ (Option.map _ (closeOf (39 :: 92 :: 85 :: (hexs 8 n ++ [39])) (1 + 10) (form n))) = _
    rw [hc]
    show (if 12 = (39 :: 92 :: 85 :: (hexs 8 n ++ [39])).length then some (form n) else none) = _
    rw [if_pos (by simp [hexs_len])]
  · rfl
/-- a number's escape in a string -/
theorem str_num (n : Nat) (hn : n < 4294967296) : valueP (34 :: 92 :: 85 :: (hexs 8 n ++ [34])) = if isChar (n : Int) = true then some (form n) else none := by
  have he := esc_num 34 n hn [34]
  by_cases hc : isChar (n : Int) = true
  · rw [if_pos hc] at he ⊢
    obtain ⟨j, hj, he0⟩ := escOf_one he
    have hj9 : j = 9 := by omega
    subst hj9
    have hs : strR 2 (92 :: 85 :: (hexs 8 n ++ [34])) = some (form n, 11) := by
      rw [strR_cons, if_neg (by decide), if_neg (by decide), if_pos rfl, he0]
      have hdr : (85 :: (hexs 8 n ++ [34])).drop 9 = [34] := by
        rw [show (9 : Nat) = 8 + 1 from rfl, List.drop_succ_cons, List.drop_left' (hexs_len 8 n)]
      simp only [Option.bind_some, hdr]
      rw [show strR 1 [34] = some ([], 1) from rfl]
      simp
    refine read_valueP (K := 7) rfl ?_
    rw [read_str hs]
    simp [hexs_len]
  · rw [if_neg hc] at he ⊢
    have he0 : escOf 34 0 (85 :: (hexs 8 n ++ [34])) = none := by
      rw [show (1 : Nat) = 1 + 0 from rfl, escOf_shift] at he
      cases hx : escOf 34 0 (85 :: (hexs 8 n ++ [34])) with
      | none => rfl
      | some y => rw [hx] at he; cases he
    cases hv : valueP (34 :: 92 :: 85 :: (hexs 8 n ++ [34])) with
    | none => rfl
    | some v =>
      obtain ⟨_, K, hr⟩ := valueP_read hv
      obtain ⟨f, j, hs, _⟩ := str_read hr
      cases f with
      | zero => cases hs
      | succ f =>
        rw [strR_cons, if_neg (by decide), if_neg (by decide), if_pos rfl, he0] at hs
        cases hs
/-- a character by itself in a rune -/
theorem rune_self (r : Int) (h : isChar r = true) (h1 : r ≠ 39) (h2 : r ≠ 92) (h3 : r ≠ 10) : valueP (39 :: (form r ++ [39])) = some (form r) := by
  refine read_valueP (K := 6) rfl ?_
  unfold readOf
  obtain ⟨w1, w2⟩ := wide_form h [39]
  have hne := form_some h
  have hlen : (form r).length ≠ 0 := fun e => hne (List.eq_nil_of_length_eq_zero e)
  rw [show (39 :: (form r ++ [39]))[0]? = some (39 : UInt8) from rfl, if_neg (by decide), if_neg (by decide), if_pos rfl, Nat.zero_add]
  have hr : runeOf (39 :: (form r ++ [39])) 1 [] = some (form r, (form r).length + 2) := by
    unfold runeOf
    rw [show ((39 : UInt8) :: (form r ++ [39])).drop 1 = form r ++ [39] from rfl, w1, w2, if_neg (by rintro (e | e | e); exact hlen e; exact h1 e; exact h3 e), if_neg h2]
    unfold closeOf
    rw [show 1 + (form r).length = (form r).length + 1 by omega, List.getElem?_cons_succ, List.getElem?_append_right (Nat.le_refl _), Nat.sub_self, if_pos (by rfl)]
    simp
  rw [hr]
  simp
theorem rune_not : valueP [39, 39, 39] = none ∧ valueP [39, 92, 39] = none ∧ valueP [39, 10, 39] = none := by decide +kernel
end Go.Proofs.Ytpbkdgbmnffooaa
