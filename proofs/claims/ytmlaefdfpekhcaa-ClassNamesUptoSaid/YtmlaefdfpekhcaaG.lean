/-
  Contracts of the document's Letters, Letter, Digits and Digit: the tables as they lie in memory.
-/
import Derived.Test.YtmlaefdfpekhcaaE
import Derived.Great.BuildSlice
import Derived.Outline
namespace Go.Proofs.Ytmlaefdfpekhcaa
open Go.ChangeShapes Go.WideShapes Go.ChangeAt Go.RowKit

theorem info53 : (Try.prog.info? 53).map (fun i => (i.zero, i.size, i.bytes)) = some (some (.agg #[.int .i64 0, .int .i64 0]), 2, 16) := by kernel_rfl
set_option maxRecDepth 100000 in
set_option maxHeartbeats 4000000 in
theorem rletters_any (w : World) :
    Calls Try.prog 40 #[] w fun e w' => e = .returned (.slice (some ⟨w.heap.size, 0, none⟩) 33 33) ∧ w' = w.alloc (.cells (pairCells .i64 letters).toArray 53) := by
  obtain ⟨i0, hi, hz0, hz1, _⟩ := info_parts info53
  have hs1 : ¬ 33 * i0.size > 2 ^ 24 := by rw [hz1]; decide
  have hs2 : ¬ 33 * i0.size = 0 := by rw [hz1]; decide
  have HZ := Lib.hid hz1
  clear hz1
  go_enter Try.func40, Try.ntmps40
  go_wp2_with (first
    | (refine wpList_buildSlice rfl 50 53 33 _ rfl (pairCells .i64 letters).toArray i0 _ Try.underlying50 hi hz0 hs1 hs2 (by rw [HZ.out]; kernel_rfl) ?_))
  go_ret
  exact ⟨rfl, rfl⟩
set_option maxRecDepth 100000 in
theorem rdigits_any (w : World) :
    Calls Try.prog 41 #[] w fun e w' => e = .returned (.slice (some ⟨w.heap.size, 0, none⟩) 5 5) ∧ w' = w.alloc (.cells (pairCells .i64 digits).toArray 53) := by
  go_enter Try.func41, Try.ntmps41
  go_wp2
  go_ret
  exact ⟨rfl, rfl⟩
theorem rletter_any (r : Int) (w : World) :
    Calls Try.prog 29 #[.int .i64 r] w fun e w' => e = .returned (.bool (inside letters r)) ∧ Below w.heap.size w w' := by
  have hP := pairs_new .i64 w 53 _ letters rfl
  have hB : Below w.heap.size w (w.alloc (.cells (pairCells .i64 letters).toArray 53)) := (Below.refl _ w).alloc (Nat.le_refl _) _
  go_enter Try.func29, Try.ntmps29
  go_wp2_with (first
    | (go_at_call 40; refine (rletters_any _).mono ?_; rintro e w' ⟨rfl, rfl⟩)
    | (go_at_call 48; refine (in_any r _ 33 letters _ rfl (by decide) hP).mono ?_; rintro e w' ⟨rfl, rfl⟩))
  go_ret
  exact ⟨rfl, hB⟩
theorem rdigit_any (r : Int) (w : World) :
    Calls Try.prog 31 #[.int .i64 r] w fun e w' => e = .returned (.bool (inside digits r)) ∧ Below w.heap.size w w' := by
  have hP := pairs_new .i64 w 53 _ digits rfl
  have hB : Below w.heap.size w (w.alloc (.cells (pairCells .i64 digits).toArray 53)) := (Below.refl _ w).alloc (Nat.le_refl _) _
  go_enter Try.func31, Try.ntmps31
  go_wp2_with (first
    | (go_at_call 41; refine (rdigits_any _).mono ?_; rintro e w' ⟨rfl, rfl⟩)
    | (go_at_call 48; refine (in_any r _ 5 digits _ rfl (by decide) hP).mono ?_; rintro e w' ⟨rfl, rfl⟩))
  go_ret
  exact ⟨rfl, hB⟩
end Go.Proofs.Ytmlaefdfpekhcaa
