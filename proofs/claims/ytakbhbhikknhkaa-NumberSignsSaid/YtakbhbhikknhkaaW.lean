/-
  Layer 5: the walks of NumberUnder and NumberImag.
-/
import Derived.Test.YtakbhbhikknhkaaZ
import Derived.Test.YtakbhbhikknhkaaMathc
namespace Go.Proofs.Ytakbhbhikknhkaa
open Go.ChangeShapes Go.WideShapes Go.ChangeAt Go.RowKit

set_option maxHeartbeats 1000000 in
theorem numberUnder_walk (s : ByteArray) (hs : s.size ≤ 140737488351232) (w : World) : Calls Try.prog 5 #[.string s] w fun e w' => e = .returned (.bool true) ∧ Below w.heap.size w w' := by
  have hA : Below w.heap.size w w := Below.refl _ _
  obtain ⟨t, ht⟩ : ∃ t : ByteArray, t = ⟨(kept 95 s.data.toList).toArray⟩ := ⟨_, rfl⟩
  have htl : t.data.toList = bare s.data.toList := by rw [ht]; rfl
  have hl : s.data.toList.length = s.size := by simp
  have hts : t.size ≤ 4611686018427387904 := by
    have h1 : t.size = t.data.toList.length := by simp
    have h2 := kept_len 95 s.data.toList
    rw [h1, htl]
    have : (bare s.data.toList).length = (kept 95 s.data.toList).length := rfl
    omega
  have hk1 := kind_any s (by omega)
  have hk2 := kind_any t hts
  rw [kind_agree] at hk1 hk2
  have hwo := without_any s hs 95
  rw [← ht] at hwo
  have hwo' : ∀ w, Calls Try.prog 14 #[.string s, .int .u8 95] w fun e w' => e = .returned (.string t) ∧ Below w.heap.size w w' := hwo
  clear hwo
  by_cases h0 : kindOf s.data.toList = 0
  · rw [h0] at hk1
    clear hk2 hwo' ht htl hl h0
    go_enter Try.func5, Try.ntmps5
    go_wp2_with (first
      | (go_at_call 9; refine (fixed_any _).mono ?_; rintro e w1 ⟨rfl, hB⟩; replace hA := hA.trans (hB.mono hA.size); clear hB)
      | (go_at_call 10; refine (hk1 _).mono ?_; rintro e w1 ⟨rfl, hB⟩; replace hA := hA.trans (hB.mono hA.size); clear hB))
    go_ret
    exact ⟨rfl, hA⟩
  · have e := kind_bare h0
    rw [htl, e] at hk2
    obtain ⟨K, hK⟩ : ∃ K, K = kindOf s.data.toList := ⟨_, rfl⟩
    rw [← hK] at hk1 hk2 h0
    have d1 : ((K : Int) == 0) = false := by rw [beq_eq_false_iff_ne]; omega
    have d2 : ((K : Int) == (K : Int)) = true := by simp
    clear ht htl hl e hK
    have t1 : True := trivial
    go_enter Try.func5, Try.ntmps5
    go_wp2_with (first
      | (go_at_call 9; refine (fixed_any _).mono ?_; rintro e w1 ⟨rfl, hB⟩; replace hA := hA.trans (hB.mono hA.size); clear hB)
      | (go_at_call 10; clear t1; refine (hk1 _).mono ?_; rintro e w1 ⟨rfl, hB⟩; replace hA := hA.trans (hB.mono hA.size); clear hB)
      | (go_at_call 14; refine (hwo' _).mono ?_; rintro e w1 ⟨rfl, hB⟩; replace hA := hA.trans (hB.mono hA.size); clear hB)
      | (go_at_call 10; refine (hk2 _).mono ?_; rintro e w1 ⟨rfl, hB⟩; replace hA := hA.trans (hB.mono hA.size); clear hB))
    go_ret
    exact ⟨ret_bool (by simp), hA⟩

theorem kind_range (l : List UInt8) : kindOf l = 0 ∨ kindOf l = 3 ∨ kindOf l = 4 ∨ kindOf l = 5 := by
  by_cases h : kindOf l = 0
  · exact .inl h
  · rcases kind_cases h with ⟨e, _⟩ | ⟨e, _⟩ | ⟨e, _⟩
    · exact .inr (.inl e)
    · exact .inr (.inr (.inl e))
    · exact .inr (.inr (.inr e))
set_option maxHeartbeats 1000000 in
theorem numberImag_walk (s : ByteArray) (hs : s.size ≤ 140737488351232) (w : World) : Calls Try.prog 6 #[.string s] w fun e w' => e = .returned (.bool true) ∧ Below w.heap.size w w' := by
  have hA : Below w.heap.size w w := Below.refl _ _
  obtain ⟨t, ht⟩ : ∃ t : ByteArray, t = s ++ ⟨#[105]⟩ := ⟨_, rfl⟩
  have htl : t.data.toList = s.data.toList ++ [105] := by rw [ht]; simp
  have hts : t.size ≤ 4611686018427387904 := by
    have : t.size = s.size + 1 := by rw [ht, ByteArray.size_append]; rfl
    omega
  have hk1 := kind_any s (by omega)
  have hk2 := kind_any t hts
  rw [kind_agree] at hk1 hk2
  rw [htl] at hk2
  obtain ⟨p1, p2, p3⟩ := imag_plain s.data.toList
  have hr := kind_range s.data.toList
  obtain ⟨K, hK⟩ : ∃ K, K = kindOf s.data.toList := ⟨_, rfl⟩
  obtain ⟨L, hL⟩ : ∃ L, L = kindOf (s.data.toList ++ [105]) := ⟨_, rfl⟩
  rw [← hK] at hk1 p1 p2 hr
  rw [← hL] at hk2 p1 p2 p3
  have hc : (K = 3 ∧ L = 5) ∨ (K = 4 ∧ L = 5) ∨ (K = 5 ∧ L = 0) ∨ (K = 0 ∧ L = 0) ∨ (K = 0 ∧ L = 5) := by
    rcases hr with h | h | h | h
    · rcases p3 with h3 | h3
      · exact .inr (.inr (.inr (.inl ⟨h, h3⟩)))
      · exact .inr (.inr (.inr (.inr ⟨h, h3⟩)))
    · exact .inl ⟨h, p1 (.inl h)⟩
    · exact .inr (.inl ⟨h, p1 (.inr h)⟩)
    · exact .inr (.inr (.inl ⟨h, p2 h⟩))
  have HT := Lib.hid ht
  clear p1 p2 p3 hr hK hL htl ht
  rcases hc with ⟨rfl, rfl⟩ | ⟨rfl, rfl⟩ | ⟨rfl, rfl⟩ | ⟨rfl, rfl⟩ | ⟨rfl, rfl⟩
  all_goals
    have t1 : True := trivial
    go_enter Try.func6, Try.ntmps6
    go_wp2_with (first
      | (go_at_call 9; refine (fixed_any _).mono ?_; rintro e w1 ⟨rfl, hB⟩; replace hA := hA.trans (hB.mono hA.size); clear hB)
      | (go_at_call 10; clear t1; refine (hk1 _).mono ?_; rintro e w1 ⟨rfl, hB⟩; replace hA := hA.trans (hB.mono hA.size); clear hB)
      | (go_at_call 10; rw [← HT.out]; refine (hk2 _).mono ?_; rintro e w1 ⟨rfl, hB⟩; replace hA := hA.trans (hB.mono hA.size); clear hB))
    go_ret
    exact ⟨rfl, hA⟩
end Go.Proofs.Ytakbhbhikknhkaa
