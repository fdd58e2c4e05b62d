/-
  Layer 7, plain: the lexemes of a row of blanks (for the law ScanLong).
-/
import Derived.Test.YtbkmlldhjchhjaaGreatSt
namespace Go.Proofs.YtbkmlldhjchhjaaGreat

theorem blanks_head (m : Nat) : wide (List.replicate (m + 1) (32 : UInt8)) = 1 ∧ chr (List.replicate (m + 1) (32 : UInt8)) = 32 :=
  ascii_head 32 (List.replicate m 32) (by decide)
theorem blanks_at {n p : Nat} (h : p < n) : wide ((List.replicate n (32 : UInt8)).drop p) = 1 ∧ chr ((List.replicate n (32 : UInt8)).drop p) = 32 := by
  rw [List.drop_replicate, show n - p = (n - p - 1) + 1 by omega]
  exact blanks_head _
theorem blanks_clean (n : Nat) : ∀ f p, cleanAt (List.replicate n 32) f p = -1
  | 0, _ => rfl
  | f + 1, p => by
    by_cases h : p < n
    · obtain ⟨h1, h2⟩ := blanks_at h
      rw [cleanAt_good f (by rw [List.length_replicate]; exact h) (by rw [h1, h2]; omega)]
      exact blanks_clean n f _
    · exact cleanAt_end _ _ _ (by rw [List.length_replicate]; exact h)
theorem blanks_span (n : Nat) : ∀ f p, n - p ≤ f → p ≤ n → spanAt isBlank (List.replicate n 32) f p = n
  | 0, p, h1, h2 => by
    have : p = n := by omega
    subst this; rfl
  | f + 1, p, h1, h2 => by
    by_cases h : p < n
    · obtain ⟨g1, g2⟩ := blanks_at h
      rw [spanAt_goes f (by rw [List.length_replicate]; exact h) (by rw [g1, g2]; decide), g1]
      exact blanks_span n f _ (by omega) (by omega)
    · rw [spanAt_end _ _ _ _ (by rw [List.length_replicate]; exact h)]; omega
theorem blanks_lex (m : Nat) : lexV (List.replicate (m + 1) 32) 0 = (10, m + 1) := by
  obtain ⟨h1, h2⟩ := blanks_head m
  have hs : spanLen isBlank (List.replicate (m + 1) 32) = m + 1 := by
    unfold spanLen
    rw [List.length_replicate]
    exact blanks_span (m + 1) (m + 1) 0 (by omega) (by omega)
  have hL : lexL ((List.replicate (m + 1) 32).drop 0) = (10, m + 1) := by
    rw [List.drop_zero]
    unfold lexL
    rw [h2, if_neg (by decide), if_pos (by decide), hs]
  rw [lexV_some hL (by decide), Nat.zero_add]
theorem blanks_all (m : Nat) (hm : m + 1 ≤ 65536) : allAns (List.replicate (m + 1) 32) = ([(10, 0, m + 1)], 0, 0) := by
  have ht : toks (List.replicate (m + 1) 32) (m + 1) 0 = ([(10, 0, m + 1)], none) := by
    rw [toks_step _ _ _ (by rw [List.length_replicate]; omega), blanks_lex, if_neg (by show ¬ (10 : Nat) = 0; decide), toks_end _ _ _ (by rw [List.length_replicate]; show ¬ m + 1 < m + 1; omega)]
  unfold allAns
  rw [List.length_replicate, if_neg (by omega), blanks_clean, if_neg (by decide), ht]
  rfl
theorem blanks_long (m : Nat) (hm : 65536 < m) : allAns (List.replicate m 32) = ([], 2, 0) := by
  unfold allAns
  rw [List.length_replicate, if_pos hm]
end Go.Proofs.YtbkmlldhjchhjaaGreat
