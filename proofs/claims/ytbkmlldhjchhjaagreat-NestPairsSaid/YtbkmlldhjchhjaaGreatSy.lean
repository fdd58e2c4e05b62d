/-
  Layer 7, plain: numbers and signs, read again from their own bytes (for the law ScanWhole).
-/
import Derived.Test.YtbkmlldhjchhjaaGreatSx
namespace Go.Proofs.YtbkmlldhjchhjaaGreat

theorem run_exact (g : Nat → Bool) : ∀ M i, (∀ j, i ≤ j → j < i + M → g j = true) → Num.runFrom g M i = i + M
  | 0, i, _ => rfl
  | M + 1, i, h => by
    unfold Num.runFrom
    rw [if_pos (h i (by omega) (by omega)), run_exact g M (i + 1) (fun j h1 h2 => h j (by omega) (by omega))]
    omega
theorem head_take (t : List UInt8) (n : Nat) (hn : 2 ≤ n) : Num.head? 120 88 (t.take n) = Num.head? 120 88 t := by
  obtain ⟨m, rfl⟩ : ∃ m, n = m + 2 := ⟨n - 2, by omega⟩
  match t with
  | [] => rfl
  | [_] => rfl
  | c :: d :: u => rw [List.take_succ_cons, List.take_succ_cons]; rfl
theorem goes_take {t : List UInt8} {n j : Nat} (hj : j < n) (h : Num.goesOn (Num.head? 120 88 t) t j = true) : Num.goesOn (Num.head? 120 88 (t.take n)) (t.take n) j = true := by
  cases j with
  | zero =>
    unfold Num.goesOn at h ⊢
    dsimp only at h ⊢
    rw [List.getElem?_take, if_pos hj]
    exact h
  | succ j =>
    rw [head_take t n (by omega)]
    unfold Num.goesOn at h ⊢
    dsimp only at h ⊢
    rw [List.getElem?_take, if_pos hj, List.getElem?_take, if_pos (by omega)]
    exact h
theorem run_again (t : List UInt8) : Num.runLen (t.take (Num.runLen t)) = Num.runLen t := by
  have hle := Num.runLen_le t
  have hh : ∀ j, j < Num.runLen t → Num.goesOn (Num.head? 120 88 t) t j = true := fun j h => run_holds _ t.length 0 j (by omega) h
  obtain ⟨n, hn⟩ : ∃ n, n = Num.runLen t := ⟨_, rfl⟩
  rw [← hn] at hle hh ⊢
  have hlen : (t.take n).length = n := by rw [List.length_take]; omega
  unfold Num.runLen
  rw [hlen, run_exact _ n 0 (fun j _ h => goes_take (by omega) (hh j (by omega)))]
  omega
theorem starts_mono {t : List UInt8} {n : Nat} (h : Num.starts (t.take n) = true) : Num.starts t = true := by
  match n, t, h with
  | 0, _, h => rw [List.take_zero] at h; cases h
  | n + 1, [], h => cases h
  | 1, c :: [], h => exact h
  | 1, c :: d :: t, h =>
    have h' : (Num.dig 10 c || (decide (c = 46) && false)) = true := h
    show (Num.dig 10 c || (decide (c = 46) && Num.dig 10 d)) = true
    rw [Bool.and_false, Bool.or_false] at h'
    rw [h']; rfl
  | n + 2, c :: [], h => exact h
  | n + 2, c :: d :: t, h => exact h
theorem starts_again {t : List UInt8} (h : Num.starts t = true) : Num.starts (t.take (Num.runLen t)) = true := by
  have hp := Num.runLen_pos h
  obtain ⟨n, hn⟩ : ∃ n, Num.runLen t = n + 1 := ⟨Num.runLen t - 1, by omega⟩
  match t, h with
  | c :: [], h => rw [hn, List.take_succ_cons, List.take_nil]; exact h
  | c :: d :: u, h =>
    by_cases hc : Num.dig 10 c = true
    · rw [hn, List.take_succ_cons]
      show (Num.dig 10 c || _) = true
      rw [hc]; rfl
    · have h2 : Num.dig 10 d = true := by
        have h' : (Num.dig 10 c || (decide (c = 46) && Num.dig 10 d)) = true := h
        rw [Bool.or_eq_true] at h'
        rcases h' with h' | h'
        · exact absurd h' hc
        · rw [Bool.and_eq_true] at h'; exact h'.2
      have hn1 : n ≠ 0 := by
        intro e
        have hg1 : Num.goesOn (Num.head? 120 88 (c :: d :: u)) (c :: d :: u) 1 = true := by
          unfold Num.goesOn
          show (Num.tail? d || _) = true
          rw [Num.dig_tail h2]; rfl
        have hg0 : Num.goesOn (Num.head? 120 88 (c :: d :: u)) (c :: d :: u) 0 = true := run_holds _ (c :: d :: u).length 0 0 (by omega) (by show 0 < Num.runLen _; omega)
        have : 2 ≤ Num.runLen (c :: d :: u) := by
          unfold Num.runLen
          rw [List.length_cons, List.length_cons]
          unfold Num.runFrom
          rw [if_pos hg0]
          unfold Num.runFrom
          rw [if_pos hg1]
          exact Num.runFrom_ge _ _ _
        omega
      obtain ⟨m, rfl⟩ : ∃ m, n = m + 1 := ⟨n - 1, by omega⟩
      rw [hn, List.take_succ_cons, List.take_succ_cons]
      exact h
theorem isSign_take {t : List UInt8} (h : signLen t ≠ 0) : isSign (t.take (signLen t)) = true := by
  obtain ⟨_, _, h3, _⟩ := bestAt_is t 47 (Nat.le_refl _)
  rw [best_sign] at h3
  exact h3 h
theorem sign_again {t : List UInt8} (h : signLen t ≠ 0) : signLen (t.take (signLen t)) = signLen t := by
  have hs := isSign_take h
  have hle := (sign_last h).1
  have hlen : (t.take (signLen t)).length = signLen t := by rw [List.length_take]; omega
  have h3 : signLen t ≤ 3 := by
    have := (bestAt_is t 47 (Nat.le_refl _)).1
    rwa [best_sign] at this
  obtain ⟨n, hn⟩ : ∃ n, n = signLen t := ⟨_, rfl⟩
  rw [← hn] at hs hlen h3 ⊢
  conv => lhs; unfold signLen
  rw [hlen, Nat.min_eq_right h3]
  refine signAt_is _ n n (Nat.le_refl _) (fun _ => ?_) (fun m h1 h2 => absurd h1 (by omega))
  rw [List.take_of_length_le (by rw [hlen]; exact Nat.le_refl _)]
  exact hs
end Go.Proofs.YtbkmlldhjchhjaaGreat
