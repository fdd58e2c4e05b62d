/-
  Layer 5: fixed; the walks of NumberKinds and NumberScans.
-/
import Derived.Test.YtakbhbhikknhkaaMath
namespace Go.Proofs.Ytakbhbhikknhkaa
open Go.ChangeShapes Go.WideShapes Go.ChangeAt Go.RowKit

theorem wf64 {a : Int} (h : (Lit.int .i64 a).wf = true) : -9223372036854775808 ≤ a ∧ a ≤ 9223372036854775807 := by
  unfold Lit.wf at h
  rw [Bool.and_eq_true, decide_eq_true_eq, decide_eq_true_eq] at h
  exact h
theorem fix1 : scanOf kindP [97, 43, 49, 46, 53, 101, 43, 51, 59] 2 = (4, 8, 0) := by decide +kernel
theorem fix2 : scanOf kindP [48, 120, 49, 101, 43, 51] 0 = (3, 4, 0) := by decide +kernel
theorem fix3 : kindP [48, 56, 105] = 5 := by decide +kernel
theorem fix4 : kindP [48, 56] = 0 := by decide +kernel
set_option maxHeartbeats 1000000 in
theorem fixed_any (w : World) : Calls Try.prog 9 #[] w fun e w' => e = .returned (.bool true) ∧ Below w.heap.size w w' := by
  have h1 : ∀ w, Calls Try.prog 12 #[.string ⟨#[97, 43, 49, 46, 53, 101, 43, 51, 59]⟩, .int .i64 2] w fun e w' => e = .returned (.tuple #[.int .u8 4, .int .i64 8, .int .i64 0]) ∧ Below w.heap.size w w' := fun w => by
    have h := scan_any ⟨#[97, 43, 49, 46, 53, 101, 43, 51, 59]⟩ (by decide) 2 w
    rw [show (⟨#[97, 43, 49, 46, 53, 101, 43, 51, 59]⟩ : ByteArray).data.toList = [97, 43, 49, 46, 53, 101, 43, 51, 59] from rfl, fix1] at h
    exact h
  have h2 : ∀ w, Calls Try.prog 12 #[.string ⟨#[48, 120, 49, 101, 43, 51]⟩, .int .i64 0] w fun e w' => e = .returned (.tuple #[.int .u8 3, .int .i64 4, .int .i64 0]) ∧ Below w.heap.size w w' := fun w => by
    have h := scan_any ⟨#[48, 120, 49, 101, 43, 51]⟩ (by decide) 0 w
    rw [show (⟨#[48, 120, 49, 101, 43, 51]⟩ : ByteArray).data.toList = [48, 120, 49, 101, 43, 51] from rfl, fix2] at h
    exact h
  have h3 : ∀ w, Calls Try.prog 10 #[.string ⟨#[48, 56, 105]⟩] w fun e w' => e = .returned (.int .u8 5) ∧ Below w.heap.size w w' := fun w => by
    have h := kind_any ⟨#[48, 56, 105]⟩ (by decide) w
    rw [show (⟨#[48, 56, 105]⟩ : ByteArray).data.toList = [48, 56, 105] from rfl, fix3] at h
    exact h
  have h4 : ∀ w, Calls Try.prog 10 #[.string ⟨#[48, 56]⟩] w fun e w' => e = .returned (.int .u8 0) ∧ Below w.heap.size w w' := fun w => by
    have h := kind_any ⟨#[48, 56]⟩ (by decide) w
    rw [show (⟨#[48, 56]⟩ : ByteArray).data.toList = [48, 56] from rfl, fix4] at h
    exact h
  have hA : Below w.heap.size w w := Below.refl _ _
  have t1 : True := trivial
  have t2 : True := trivial
  go_enter Try.func9, Try.ntmps9
  go_wp2_with (first
    | (go_at_call 12; clear t1; refine (h1 _).mono ?_; rintro e w1 ⟨rfl, hB⟩; replace hA := hA.trans (hB.mono hA.size); clear hB)
    | (go_at_call 12; refine (h2 _).mono ?_; rintro e w1 ⟨rfl, hB⟩; replace hA := hA.trans (hB.mono hA.size); clear hB)
    | (go_at_call 10; clear t2; refine (h3 _).mono ?_; rintro e w1 ⟨rfl, hB⟩; replace hA := hA.trans (hB.mono hA.size); clear hB)
    | (go_at_call 10; refine (h4 _).mono ?_; rintro e w1 ⟨rfl, hB⟩; replace hA := hA.trans (hB.mono hA.size); clear hB))
  go_ret
  exact ⟨rfl, hA⟩

theorem numberKinds_walk (s : ByteArray) (w : World) (hs : s.size ≤ maxLen) : Calls Try.prog 3 #[.string s] w fun e w' => e = .returned (.bool true) ∧ Below w.heap.size w w' := by
  have hA : Below w.heap.size w w := Below.refl _ _
  unfold maxLen at hs
  by_cases h : 400 < s.size
  · have d1 : (400 : Int) < s.size := by omega
    go_enter Try.func3, Try.ntmps3
    go_wp2_with (go_at_call 9; refine (fixed_any _).mono ?_; rintro e w1 ⟨rfl, hB⟩; replace hA := hA.trans (hB.mono hA.size); clear hB)
    go_ret
    exact ⟨rfl, hA⟩
  · have d1 : ¬ (400 : Int) < s.size := by omega
    have hk := kind_any s (by omega)
    have hr := refKind_any s (by omega)
    rw [kind_agree] at hk
    obtain ⟨K, hK⟩ : ∃ K, K = kindOf s.data.toList := ⟨_, rfl⟩
    rw [← hK] at hk hr
    clear hK
    go_enter Try.func3, Try.ntmps3
    go_wp2_with (first
      | (go_at_call 9; refine (fixed_any _).mono ?_; rintro e w1 ⟨rfl, hB⟩; replace hA := hA.trans (hB.mono hA.size); clear hB)
      | (go_at_call 10; refine (hk _).mono ?_; rintro e w1 ⟨rfl, hB⟩; replace hA := hA.trans (hB.mono hA.size); clear hB)
      | (go_at_call 11; refine (hr _).mono ?_; rintro e w1 ⟨rfl, hB⟩; replace hA := hA.trans (hB.mono hA.size); clear hB))
    go_ret
    exact ⟨ret_bool (by simp), hA⟩
theorem scan_agree (l : List UInt8) (at' : Int) : scanOf kindP l at' = scanOf kindOf l at' := by
  have : kindP = kindOf := funext kind_agree
  rw [this]
set_option maxHeartbeats 1000000 in
theorem numberScans_walk (s : ByteArray) (at' : Int) (w : World) (hs : s.size ≤ maxLen) (h0 : -9223372036854775808 ≤ at') (h1 : at' ≤ 9223372036854775807) : Calls Try.prog 4 #[.string s, .int .i64 at'] w fun e w' => e = .returned (.bool true) ∧ Below w.heap.size w w' := by
  have hA : Below w.heap.size w w := Below.refl _ _
  unfold maxLen at hs
  by_cases h : 400 < s.size
  · have d1 : (400 : Int) < s.size := by omega
    go_enter Try.func4, Try.ntmps4
    go_wp2_with (go_at_call 9; refine (fixed_any _).mono ?_; rintro e w1 ⟨rfl, hB⟩; replace hA := hA.trans (hB.mono hA.size); clear hB)
    go_ret
    exact ⟨rfl, hA⟩
  · have d1 : ¬ (400 : Int) < s.size := by omega
    have hk := scan_any s (by omega) at'
    have hr := refScan_any s (by omega) at' h0 h1
    rw [scan_agree] at hk
    obtain ⟨⟨K, E, F⟩, hK⟩ : ∃ x, x = scanOf kindOf s.data.toList at' := ⟨_, rfl⟩
    rw [← hK] at hk hr
    clear hK
    go_enter Try.func4, Try.ntmps4
    go_wp2_with (first
      | (go_at_call 9; refine (fixed_any _).mono ?_; rintro e w1 ⟨rfl, hB⟩; replace hA := hA.trans (hB.mono hA.size); clear hB)
      | (go_at_call 12; refine (hk _).mono ?_; rintro e w1 ⟨rfl, hB⟩; replace hA := hA.trans (hB.mono hA.size); clear hB)
      | (go_at_call 13; refine (hr _).mono ?_; rintro e w1 ⟨rfl, hB⟩; replace hA := hA.trans (hB.mono hA.size); clear hB))
    go_ret
    exact ⟨ret_bool (by simp), hA⟩
end Go.Proofs.Ytakbhbhikknhkaa
