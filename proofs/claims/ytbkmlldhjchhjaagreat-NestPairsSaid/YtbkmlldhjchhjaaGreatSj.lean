/-
  Layer 7: the document's Signs, and the longest one.
-/
import Derived.Test.YtbkmlldhjchhjaaGreatSg
namespace Go.Proofs.YtbkmlldhjchhjaaGreat
open Go.ChangeShapes Go.WideShapes Go.ChangeAt Go.RowKit

theorem info9s : (Tryz.prog.info? 9).map (fun i => (i.zero, i.size, i.bytes)) = some (some (.string ⟨#[]⟩), 1, 16) := by kernel_rfl
set_option maxRecDepth 100000 in
set_option maxHeartbeats 4000000 in
theorem rsigns_any (w : World) :
    Calls Tryz.prog 44 #[] w fun e w' => e = .returned (.slice (some ⟨w.heap.size, 0, none⟩) 47 47) ∧ w' = w.alloc (.cells (strCells signs).toArray 9) := by
  obtain ⟨i0, hi, hz0, hz1, _⟩ := info_parts info9s
  have hs1 : ¬ 47 * i0.size > 2 ^ 24 := by rw [hz1]; decide
  have hs2 : ¬ 47 * i0.size = 0 := by rw [hz1]; decide
  have HZ := Lib.hid hz1
  clear hz1
  go_enter Tryz.func44, Tryz.ntmps44
  go_wp2_with (first
    | (refine wpList_buildSlice rfl 52 9 47 _ rfl (strCells signs).toArray i0 _ Tryz.underlying52 hi hz0 hs1 hs2 (by rw [HZ.out]; kernel_rfl) ?_))
  go_ret
  exact ⟨rfl, rfl⟩
/-- the longest of the first so many signs that stand at the head of a text -/
def bestAt (t : List UInt8) : Nat → Nat
  | 0 => 0
  | i + 1 => if (signs.getD i []).isPrefixOf t = true ∧ bestAt t i < (signs.getD i []).length then (signs.getD i []).length else bestAt t i
theorem bestAt_step (t : List UInt8) (i : Nat) : bestAt t (i + 1) = if (signs.getD i []).isPrefixOf t = true ∧ bestAt t i < (signs.getD i []).length then (signs.getD i []).length else bestAt t i := rfl
theorem signs_small : ∀ x ∈ signs, 0 < x.length ∧ x.length ≤ 3 := by decide
theorem bestAt_is (t : List UInt8) : ∀ i, i ≤ 47 → bestAt t i ≤ 3 ∧ bestAt t i ≤ t.length ∧ (bestAt t i ≠ 0 → isSign (t.take (bestAt t i)) = true) ∧ ∀ j, j < i → (signs.getD j []).isPrefixOf t = true → (signs.getD j []).length ≤ bestAt t i
  | 0, _ => ⟨by simp [bestAt], by simp [bestAt], fun h => absurd rfl h, fun j hj => absurd hj (by omega)⟩
  | i + 1, hi => by
    obtain ⟨h1, h2, h3, h4⟩ := bestAt_is t i (by omega)
    have hm : signs.getD i [] ∈ signs := by
      have hl : i < signs.length := by show i < 47; omega
      rw [List.getD_eq_getElem?_getD, List.getElem?_eq_getElem hl]; exact List.getElem_mem hl
    obtain ⟨g1, g2⟩ := signs_small _ hm
    rw [bestAt_step]
    by_cases hc : (signs.getD i []).isPrefixOf t = true ∧ bestAt t i < (signs.getD i []).length
    · rw [if_pos hc]
      obtain ⟨u, hu⟩ := List.isPrefixOf_iff_prefix.1 hc.1
      refine ⟨g2, ?_, fun _ => ?_, fun j hj hp => ?_⟩
      · have := congrArg List.length hu
        rw [List.length_append] at this; omega
      · have : t.take (signs.getD i []).length = signs.getD i [] := by conv => lhs; rw [← hu]
                                                                       simp
        rw [this]
        exact List.contains_iff_mem.2 hm
      · by_cases he : j = i
        · rw [he]; exact Nat.le_refl _
        · have := h4 j (by omega) hp; omega
    · rw [if_neg hc]
      refine ⟨h1, h2, h3, fun j hj hp => ?_⟩
      by_cases he : j = i
      · subst he
        have : ¬ bestAt t j < (signs.getD j []).length := fun h => hc ⟨hp, h⟩
        omega
      · exact h4 j (by omega) hp
theorem signAt_is (t : List UInt8) (b : Nat) : ∀ m, b ≤ m → (b ≠ 0 → isSign (t.take b) = true) → (∀ n, n ≤ m → b < n → isSign (t.take n) = false) → signAt t m = b
  | 0, hb, _, _ => by have : b = 0 := by omega
                      rw [this]; rfl
  | m + 1, hb, h1, h2 => by
    have hs : signAt t (m + 1) = if isSign (t.take (m + 1)) = true then m + 1 else signAt t m := rfl
    rw [hs]
    by_cases he : b = m + 1
    · rw [← he, if_pos (h1 (by omega))]
    · rw [if_neg (by rw [h2 (m + 1) (Nat.le_refl _) (by omega)]; decide)]
      exact signAt_is t b m (by omega) h1 (fun n hn hb => h2 n (by omega) hb)
theorem best_sign (t : List UInt8) : bestAt t 47 = signLen t := by
  obtain ⟨h1, h2, h3, h4⟩ := bestAt_is t 47 (Nat.le_refl _)
  unfold signLen
  refine (signAt_is t _ _ (by omega) h3 fun n hn hb => ?_).symm
  cases hs : isSign (t.take n) with
  | false => rfl
  | true =>
    have hm : t.take n ∈ signs := List.contains_iff_mem.1 hs
    obtain ⟨j, hj, hje⟩ := List.mem_iff_getElem.1 hm
    have hg : signs.getD j [] = t.take n := by rw [List.getD_eq_getElem?_getD, List.getElem?_eq_getElem hj, hje]; rfl
    have hp : (signs.getD j []).isPrefixOf t = true := by rw [hg]; exact List.isPrefixOf_iff_prefix.2 (List.take_prefix n t)
    have := h4 j hj hp
    rw [hg, List.length_take] at this
    omega
end Go.Proofs.YtbkmlldhjchhjaaGreat
