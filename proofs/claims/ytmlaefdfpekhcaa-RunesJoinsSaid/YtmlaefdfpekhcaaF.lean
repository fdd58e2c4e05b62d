/-
  Contracts of class.Letter and of the document's Letters and Letter: the tables as they lie in memory.
-/
import Derived.Test.YtmlaefdfpekhcaaE
import Derived.Great.BuildSlice
namespace Go.Proofs.Ytmlaefdfpekhcaa
open Go.ChangeShapes Go.WideShapes Go.ChangeAt Go.RowKit

theorem heap_new (w : World) (c : Array Value) (t : TypeId) : (w.alloc (.cells c t)).heap[w.heap.size]? = some (.cells c t (0, 0)) := by
  show (w.heap.push _)[w.heap.size]? = _
  simp
theorem setRow_new (w : World) (c d : Array Value) (t : TypeId) : (w.alloc (.cells c t)).setRow w.heap.size d = w.alloc (.cells d t) := by
  unfold World.setRow
  show ({ w with heap := (w.heap.push (Obj.cells c t)).modify w.heap.size _ } : World) = { w with heap := w.heap.push (Obj.cells d t) }
  congr 1
  apply Array.ext
  · simp
  · intro i h1 h2
    simp only [Array.getElem_modify, Array.getElem_push]
    by_cases hi : w.heap.size = i
    · subst hi; simp
    · have : i < w.heap.size := by simp at h2; omega
      simp [hi, this]
set_option maxRecDepth 100000 in
theorem zero68 (w : World) : (zeroValue 68).run Try.prog w = .ok (.agg (Array.replicate 66 (.int .i32 0))) w := by kernel_rfl

set_option maxRecDepth 100000 in
set_option maxHeartbeats 4000000 in
theorem letter_any (r : Int) (w : World) :
    Calls Try.prog 28 #[.int .i32 r] w fun e w' => e = .returned (.bool (inside letters r)) ∧ Below w.heap.size w w' := by
  have hz := zero68
  have hB0 : Below w.heap.size w (w.alloc (.cells (pairCells .i32 letters).toArray 68)) := (Below.refl _ w).alloc (Nat.le_refl _) _
  have hP0 := pairs_new .i32 w 68 _ letters rfl
  rw [← setRow_new w (Array.replicate 66 (.int .i32 0))] at hB0 hP0
  go_enter Try.func28, Try.ntmps28
  go_wp2_with (first
    | (refine wpList_buildTo rfl 68 _ rfl (some 37) rfl (pairCells .i32 letters).toArray (by kernel_rfl) ?_)
    | (refine wpList_store_rowTo rfl 68 (.tmp 3) (.tmp 37) rfl rfl w.heap.size (pairCells .i32 letters).toArray rfl rfl 68 (Array.replicate 66 (.int .i32 0)) (heap_new _ _ _) (by kernel_rfl) (by kernel_rfl) (by kernel_rfl) ?_)
    | (go_at_call 47; refine (within_any r _ 33 letters _ (by simp) rfl (by decide) hP0).mono ?_; rintro e w' ⟨rfl, hB⟩))
  go_ret
  exact ⟨ret_bool (within_inside letters (-1) r (by decide)), hB0.trans (hB.mono hB0.size)⟩
end Go.Proofs.Ytmlaefdfpekhcaa
