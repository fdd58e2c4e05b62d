/-
  Layer 7: contracts of the document's has and Signs.
-/
import Derived.Test.YtbkmlldhjchhjaaGreatSd
namespace Go.Proofs.YtbkmlldhjchhjaaGreat
open Go.ChangeShapes Go.WideShapes Go.ChangeAt Go.RowKit

theorem take_prefix (t l : List UInt8) : (l.take t.length == t) = t.isPrefixOf l := by
  rw [Bool.eq_iff_iff, beq_iff_eq, List.isPrefixOf_iff_prefix]
  constructor
  · intro h
    exact ⟨l.drop t.length, by
      conv => rhs; rw [← List.take_append_drop t.length l]
      rw [h]⟩
  · rintro ⟨r, rfl⟩
    simp
set_option maxHeartbeats 4000000 in
theorem has_any (s t : ByteArray) (hs : s.size ≤ 140737488351232) (ht : t.size ≤ 140737488351232) (a : Nat) (ha : a ≤ s.size) (w : World) :
    Calls Tryz.prog 39 #[.string s, .int .i64 a, .string t] w fun e w' => e = .returned (.bool (t.data.toList.isPrefixOf (s.data.toList.drop a))) ∧ w' = w := by
  have hl : s.data.toList.length = s.size := by simp
  have htl : t.data.toList.length = t.size := by simp
  have hw0 : IntKind.i64.wrap ((s.size : Int) - (a : Int)) = (s.size : Int) - (a : Int) := by rw [IntKind.wrap_i64]; omega
  by_cases hle : t.size ≤ s.size - a
  · have d1 : (t.size : Int) ≤ (s.size : Int) - (a : Int) := by omega
    obtain ⟨X, hXe⟩ : ∃ X, X = s.extract a (a + t.size) := ⟨_, rfl⟩
    have hXl : X.toList = (s.data.toList.drop a).take t.size := by
      rw [hXe, extract_list, List.drop_take]; congr 1; omega
    have hsl := fun w => slice_run s a t.size ((a : Int) + (t.size : Int)) rfl (by omega) w
    rw [← hXe] at hsl
    have hq : (X.toList == t.toList) = t.data.toList.isPrefixOf (s.data.toList.drop a) := by
      rw [hXl, ByteArray.toList_eq t, ← htl, take_prefix]
    rw [← hq]
    have HQ := Lib.hid hq
    clear hXe hXl hq
    go_enter Tryz.func39, Tryz.ntmps39
    go_wp2
    go_ret
    exact ⟨rfl, rfl⟩
  · have d1 : ¬ (t.size : Int) ≤ (s.size : Int) - (a : Int) := by omega
    have hr : t.data.toList.isPrefixOf (s.data.toList.drop a) = false := by
      rw [← take_prefix, beq_eq_false_iff_ne]
      intro e
      have := congrArg List.length e
      rw [List.length_take, List.length_drop, hl, htl] at this
      omega
    rw [hr]
    clear hr
    go_enter Tryz.func39, Tryz.ntmps39
    go_wp2
    go_ret
    exact ⟨rfl, rfl⟩
end Go.Proofs.YtbkmlldhjchhjaaGreat
