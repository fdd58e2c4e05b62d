/-
  Layer 4: the law LinesWhole.
-/
import Derived.Test.YthbjiecckehckabM
namespace Go.Proofs.Ythbjiecckehckab
open Go.ChangeShapes Go.WideShapes Go.ChangeAt Go.RowKit

/-- the text up to the end of the line number i, counted from 1 on -/
def pref (s : ByteArray) (i : Nat) : ByteArray := if i = 0 then ⟨#[]⟩ else s.extract 0 (upto_ s (i - 1))
theorem from_zero (s : ByteArray) : from_ s 0 = 0 := by
  have : ∀ n, (stK s.data.toList n)[0]? = some 0 := by
    intro n
    induction n with
    | zero => rfl
    | succ n ih => rw [stK, List.getElem?_append_left (stK_pos _ _)]; exact ih
  simp [from_, starts, List.getD, this]
theorem pref_all (s : ByteArray) : pref s (starts s).length = s := by
  have hp : 0 < (starts s).length := stK_pos _ _
  unfold pref
  rw [if_neg (by omega), upto_last s _ (by omega)]
  exact ByteArray.extract_zero_size

theorem ext_one (s : ByteArray) (k : Nat) (hk : k < s.size) (h : s.data.toList[k]? = some 10) : s.extract k (k + 1) = ⟨#[10]⟩ := by
  have hb := get_byte s k hk
  rw [h] at hb
  have h10 : s[k] = 10 := (Option.some.inj hb).symm
  ext i h1 h2
  · simp; omega
  · have : i = 0 := by simp at h1; omega
    subst this
    have hd : s.data[k]'(by simpa using hk) = 10 := h10
    simp [hd]
theorem pref_first (s : ByteArray) : pref s 0 ++ s.extract (from_ s 0) (upto_ s 0) = pref s 1 := by
  rw [from_zero]
  have h1 : pref s 0 = ByteArray.empty := rfl
  have h2 : pref s 1 = s.extract 0 (upto_ s 0) := rfl
  rw [h1, h2, ByteArray.empty_append]
theorem pref_next (s : ByteArray) (i : Nat) (h : i + 1 < (starts s).length) : (pref s (i + 1) ++ ⟨#[10]⟩) ++ s.extract (from_ s (i + 1)) (upto_ s (i + 1)) = pref s (i + 2) := by
  obtain ⟨h1, h2⟩ := upto_next s i h
  have h3 := upto_ge s (i + 1) h
  have hx1 : (starts s)[i]? = some (from_ s i) := by simp [from_, List.getD, show i < (starts s).length by omega]
  have hx2 : (starts s)[i + 1]? = some (from_ s (i + 1)) := by simp [from_, List.getD, h]
  obtain ⟨_, k2, _⟩ := stK_what _ _ i _ hx1
  obtain ⟨_, _, q3, _⟩ := k2 _ hx2
  rw [h1, Nat.add_sub_cancel] at q3
  have e1 : pref s (i + 1) = s.extract 0 (upto_ s i) := rfl
  have e2 : pref s (i + 2) = s.extract 0 (upto_ s (i + 1)) := rfl
  rw [e1, e2, ← ext_one s (upto_ s i) (by omega) q3, h1, ByteArray.extract_append_extract, show max (upto_ s i) (upto_ s i + 1) = upto_ s i + 1 by omega, ByteArray.extract_append_extract]
  congr 1 <;> omega
theorem pref_size (s : ByteArray) (i : Nat) (h : i < (starts s).length) : (pref s i).size + (if i = 0 then 0 else 1) + (s.extract (from_ s i) (upto_ s i)).size ≤ s.size := by
  have h1 := upto_ge s i h
  cases i with
  | zero =>
    have : (pref s 0).size = 0 := rfl
    rw [ByteArray.size_extract, this]; simp; omega
  | succ i =>
    obtain ⟨h2, h3⟩ := upto_next s i h
    have e1 : pref s (i + 1) = s.extract 0 (upto_ s i) := rfl
    rw [e1, ByteArray.size_extract, ByteArray.size_extract, if_neg (by omega)]; omega

set_option maxHeartbeats 1000000 in
theorem whole_small (s : ByteArray) (hs4 : s.size ≤ 4000) (w : World) : Calls Try.prog 8 #[.string s] w fun e w' => e = .returned (.bool true) ∧ Below w.heap.size w w' := by
  have hA : Below w.heap.size w w := Below.refl _ _
  have hsl := starts_len s
  have hall : (starts s).length = s.data.toList.count 10 + 1 := stK_all s.data.toList
  have hcnt := fun w => count_any s (by unfold maxLen; omega) w
  rw [← hall] at hcnt
  have HC := Lib.hid hcnt
  have HA := Lib.hid hall
  clear hcnt hall
  generalize hm : (starts s).length = m at hsl HC HA
  have HM := Lib.hid hm
  clear hm
  go_enter Try.func8, Try.ntmps8
  go_wp2_with (first
    | (go_at_call 11; refine (fixed_any _).mono ?_; rintro e w1 ⟨rfl, hB⟩; replace hA := below_chain hA hB; clear hB))
  go_loopw [3, 4] (fun t n wr => ∃ (i : Nat), i ≤ m ∧ n = .int .i64 ((i : Int) + 1) ∧ t = .string (pref s i) ∧ Below w.heap.size w wr) (fun _ n _ => m + 1 - (intOf n).toNat)
  case atStart => exact ⟨0, Nat.zero_le _, rfl, rfl, hA⟩
  case round =>
    clear hA
    obtain ⟨i, him, rfl, rfl, hA⟩ := hrel
    by_cases hlt : i < m
    · have hl := fun w => line_any s (by omega) ((i : Int) + 1) w
      have hc : 1 ≤ (i : Int) + 1 ∧ (i : Int) + 1 ≤ (starts s).length := by have := HM.out; omega
      have ht : lineText s ((i : Int) + 1) = s.extract (from_ s i) (upto_ s i) := by unfold lineText; rw [if_pos hc, show ((i : Int) + 1).toNat - 1 = i by omega]
      have hr : lineErr s ((i : Int) + 1) = 0 := by unfold lineErr; rw [if_pos hc]
      rw [ht, hr] at hl
      have HL := Lib.hid hl
      clear hl ht hr hc
      have i1 : (i : Int) + 1 ≤ (m : Int) := by omega
      have i2 : (i : Int) + 1 ≤ 4001 := by omega
      have hz := pref_size s i (by have := HM.out; omega)
      by_cases h0 : i = 0
      · subst h0
        have hcat := pref_first s
        rw [if_pos rfl] at hz
        generalize s.extract (from_ s 0) (upto_ s 0) = u at HL hcat hz
        generalize pref s 0 = p0 at hcat hz ⊢
        have HK := Lib.hid hcat
        clear hcat
        go_wp2_with (first
          | (go_at_call 14; refine (HC.out _).mono ?_; rintro e w2 ⟨rfl, h⟩; subst w2)
          | (go_at_call 15; refine (HL.out _).mono ?_; rintro e w3 ⟨rfl, hB⟩; replace hA := below_chain hA hB; clear hB))
        go_roundw
        case rel => exact ⟨1, by omega, by go_num, by rw [HK.out], hA⟩
        case measure => simp [intOf]; omega
      · have hcat : (pref s i ++ ⟨#[10]⟩) ++ s.extract (from_ s i) (upto_ s i) = pref s (i + 1) := by
          obtain ⟨j, rfl⟩ : ∃ j, i = j + 1 := ⟨i - 1, by omega⟩
          exact pref_next s j (by have := HM.out; omega)
        rw [if_neg h0] at hz
        generalize s.extract (from_ s i) (upto_ s i) = u at HL hcat hz
        generalize pref s i = p0 at hcat hz ⊢
        have HK := Lib.hid hcat
        clear hcat
        have i3 : (1 : Int) < (i : Int) + 1 := by omega
        clear h0
        go_wp2_with (first
          | (go_at_call 14; refine (HC.out _).mono ?_; rintro e w2 ⟨rfl, h⟩; subst w2)
          | (go_at_call 15; refine (HL.out _).mono ?_; rintro e w3 ⟨rfl, hB⟩; replace hA := below_chain hA hB; clear hB))
        go_roundw
        case rel => exact ⟨i + 1, by omega, by go_num, by rw [HK.out], hA⟩
        case measure => simp [intOf]; omega
    · obtain rfl : i = m := by omega
      have hp := pref_all s
      rw [HM.out] at hp
      generalize pref s i = p0 at hp ⊢
      subst hp
      go_wp2_with (first
        | (go_at_call 14; refine (HC.out _).mono ?_; rintro e w2 ⟨rfl, h⟩; subst w2))
      go_ret
      exact ⟨by simp, hA⟩
theorem linesWhole_walk (s : ByteArray) (_ : s.size ≤ maxLen) (w : World) : Calls Try.prog 8 #[.string s] w fun e w' => e = .returned (.bool true) ∧ Below w.heap.size w w' := by
  by_cases hs : s.size ≤ 4000
  · exact whole_small s hs w
  · have hA : Below w.heap.size w w := Below.refl _ _
    have TOK : True := trivial
    have d1 : (4000 : Int) < (s.size : Int) := by omega
    go_enter Try.func8, Try.ntmps8
    go_wp2_with (first
      | (go_at_call 11; clear TOK; refine (fixed_any _).mono ?_; rintro e w1 ⟨rfl, hB⟩; replace hA := below_chain hA hB; clear hB)
      | (go_at_call 11; refine (fixed_any _).mono ?_; rintro e w2 ⟨rfl, hB⟩; replace hA := below_chain hA hB; clear hB))
    go_ret
    exact ⟨rfl, hA⟩
end Go.Proofs.Ythbjiecckehckab
