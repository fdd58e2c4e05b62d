/-
  Layer 6: the document's examples (fixed), and the laws QuotedScans and QuotedValues.
-/
import Derived.Test.YtpbkdgbmnffooaaY
namespace Go.Proofs.Ytpbkdgbmnffooaa
open Go.ChangeShapes Go.WideShapes Go.ChangeAt Go.RowKit

theorem scan_ex : scanP [120, 39, 97, 39] 1 = (6, 4, 0) := by decide +kernel
theorem value_ex1 : valueP [39, 92, 51, 55, 55, 39] = some [195, 191] := by decide +kernel
theorem value_ex2 : valueP [34, 92, 51, 55, 55, 34] = some [255] := by decide +kernel
theorem quote_ex : quoteOf [97, 10, 255] = [34, 97, 92, 110, 92, 120, 102, 102, 34] := by decide +kernel
set_option maxHeartbeats 4000000 in
theorem fixed_any (w : World) : Calls Try.prog 12 #[] w fun e w' => e = .returned (.bool true) ∧ Below w.heap.size w w' := by
  have h1 := fun w => scan_any ⟨#[120, 39, 97, 39]⟩ (by decide) 1 w
  have h2 := fun w => value_any ⟨#[39, 92, 51, 55, 55, 39]⟩ (by decide) w
  have h3 := fun w => value_any ⟨#[34, 92, 51, 55, 55, 34]⟩ (by decide) w
  have h4 := fun w => quote_any ⟨#[97, 10, 255]⟩ (by decide) w
  rw [show (⟨#[120, 39, 97, 39]⟩ : ByteArray).data.toList = [120, 39, 97, 39] from rfl, scan_ex] at h1
  rw [show (⟨#[39, 92, 51, 55, 55, 39]⟩ : ByteArray).data.toList = [39, 92, 51, 55, 55, 39] from rfl, value_ex1] at h2
  rw [show (⟨#[34, 92, 51, 55, 55, 34]⟩ : ByteArray).data.toList = [34, 92, 51, 55, 55, 34] from rfl, value_ex2] at h3
  rw [show (⟨#[97, 10, 255]⟩ : ByteArray).data.toList = [97, 10, 255] from rfl, quote_ex] at h4
  go_enter Try.func12, Try.ntmps12
  go_wp2_with fail
  go_at_call 10
  refine (h1 _).mono ?_
  rintro e w1 ⟨rfl, hA⟩
  go_wp2_with fail
  go_at_call 13
  refine (h2 _).mono ?_
  rintro e w2 ⟨he, hB⟩
  have he' : e = .returned (.tuple #[.string ⟨#[195, 191]⟩, .int .i64 0]) := he
  subst he'
  replace hA := hA.trans (hB.mono hA.size)
  clear hB he
  go_wp2_with fail
  go_at_call 13
  refine (h3 _).mono ?_
  rintro e w3 ⟨he, hB⟩
  have he' : e = .returned (.tuple #[.string ⟨#[255]⟩, .int .i64 0]) := he
  subst he'
  replace hA := hA.trans (hB.mono hA.size)
  clear hB he
  go_wp2_with fail
  go_at_call 15
  refine (h4 _).mono ?_
  rintro e w4 ⟨he, hB⟩
  have he' : e = .returned (.string ⟨#[34, 97, 92, 110, 92, 120, 102, 102, 34]⟩) := he
  subst he'
  replace hA := hA.trans (hB.mono hA.size)
  clear hB he
  go_wp2_with fail
  go_ret
  exact ⟨rfl, hA⟩
set_option maxHeartbeats 4000000 in
theorem scans_any (s : ByteArray) (hs : s.size ≤ 140737488351232) (at' : Int) (w : World) :
    Calls Try.prog 3 #[.string s, .int .i64 at'] w fun e w' => e = .returned (.bool true) ∧ Below w.heap.size w w' := by
  have h1 := fun w => scan_any s hs at' w
  have h2 := fun w => docscan_any s hs at' w
  obtain ⟨K, k', e, hr⟩ : ∃ (K : Nat) (k' e : Int), scanP s.data.toList at' = (K, k', e) := ⟨_, _, _, rfl⟩
  rw [hr] at h1 h2
  clear hr
  go_enter Try.func3, Try.ntmps3
  go_wp2_with (first
    | (go_at_call 10; refine (h1 _).mono ?_; rintro e w1 ⟨rfl, hA⟩)
    | (go_at_call 11; refine (h2 _).mono ?_; rintro e w1 ⟨rfl, hB⟩; replace hA := hA.trans (hB.mono hA.size); clear hB)
    | (go_at_call 12; refine (fixed_any _).mono ?_; rintro e w1 ⟨rfl, hB⟩; replace hA := hA.trans (hB.mono hA.size); clear hB))
  go_ret
  exact ⟨rfl, hA⟩
set_option maxHeartbeats 4000000 in
theorem values_any (s : ByteArray) (hs : s.size ≤ 140737488351232) (w : World) :
    Calls Try.prog 4 #[.string s] w fun e w' => e = .returned (.bool true) ∧ Below w.heap.size w w' := by
  have h1 := fun w => value_any s hs w
  have h2 := fun w => docvalue_any s hs w
  obtain ⟨S, e, hr⟩ : ∃ (S : ByteArray) (e : Int), valueAns (valueP s.data.toList) = .tuple #[.string S, .int .i64 e] := by
    cases valueP s.data.toList with
    | none => exact ⟨_, _, rfl⟩
    | some L => exact ⟨_, _, rfl⟩
  rw [hr] at h1 h2
  clear hr
  go_enter Try.func4, Try.ntmps4
  go_wp2_with (first
    | (go_at_call 13; refine (h1 _).mono ?_; rintro e w1 ⟨rfl, hA⟩)
    | (go_at_call 14; refine (h2 _).mono ?_; rintro e w1 ⟨rfl, hB⟩; replace hA := hA.trans (hB.mono hA.size); clear hB)
    | (go_at_call 12; refine (fixed_any _).mono ?_; rintro e w1 ⟨rfl, hB⟩; replace hA := hA.trans (hB.mono hA.size); clear hB))
  go_ret
  exact ⟨rfl, hA⟩
end Go.Proofs.Ytpbkdgbmnffooaa
