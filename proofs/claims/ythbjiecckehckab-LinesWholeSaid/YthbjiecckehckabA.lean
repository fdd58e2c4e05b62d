/-
  Layer 4: where the lines of a list of bytes begin and end (plain lists).
-/
import Derived.WalkKit
namespace Go.Proofs.Ythbjiecckehckab

/-- the beginnings of lines that the first k bytes tell -/
def stK (l : List UInt8) : Nat → List Nat
  | 0 => [0]
  | k + 1 => stK l k ++ (if l[k]? = some 10 then [k + 1] else [])
/-- the last of them -/
def lst (l : List UInt8) : Nat → Nat
  | 0 => 0
  | k + 1 => if l[k]? = some 10 then k + 1 else lst l k
theorem stK_pos (l : List UInt8) (k : Nat) : 0 < (stK l k).length := by
  induction k with
  | zero => simp [stK]
  | succ k ih => simp [stK]; omega
theorem stK_len (l : List UInt8) (k : Nat) : (stK l k).length = 1 + (l.take k).count 10 := by
  induction k with
  | zero => simp [stK]
  | succ k ih =>
    rw [stK, List.length_append, ih, List.take_add_one, List.count_append]
    cases h : l[k]? with
    | none => simp
    | some b =>
      by_cases hb : b = 10
      · subst hb; simp; omega
      · simp [hb]
theorem stK_all (l : List UInt8) : (stK l l.length).length = l.count 10 + 1 := by rw [stK_len, List.take_length]; omega
theorem stK_room (l : List UInt8) (k : Nat) (h : l[k]? = some 10) : (stK l k).length + 1 ≤ l.count 10 + 1 := by
  have h1 := stK_len l (k + 1)
  rw [stK, if_pos h, List.length_append] at h1
  have h2 : (l.take (k + 1)).count 10 ≤ l.count 10 := (List.take_sublist _ _).count_le _
  simp at h1; omega
theorem stK_le (l : List UInt8) (k : Nat) : ∀ x ∈ stK l k, x ≤ k := by
  induction k with
  | zero => intro x hx; simp [stK] at hx; omega
  | succ k ih =>
    intro x hx
    rw [stK, List.mem_append] at hx
    rcases hx with hx | hx
    · have := ih x hx; omega
    · split at hx
      · simp at hx; omega
      · simp at hx
theorem stK_more (l : List UInt8) (k j : Nat) : ∃ M, stK l (k + j) = stK l k ++ M ∧ ∀ x ∈ M, k < x := by
  induction j with
  | zero => exact ⟨[], by simp, by simp⟩
  | succ j ih =>
    obtain ⟨M, h1, h2⟩ := ih
    refine ⟨M ++ (if l[k + j]? = some 10 then [k + j + 1] else []), by rw [← Nat.add_assoc, stK, h1, List.append_assoc], ?_⟩
    intro x hx
    rw [List.mem_append] at hx
    rcases hx with hx | hx
    · exact h2 x hx
    · split at hx
      · simp at hx; omega
      · simp at hx
theorem stK_last (l : List UInt8) (k : Nat) : (stK l k)[(stK l k).length - 1]? = some (lst l k) := by
  induction k with
  | zero => simp [stK, lst]
  | succ k ih =>
    by_cases h : l[k]? = some 10
    · simp [stK, lst, h]
    · simp [stK, lst, h]; simpa using ih
theorem lst_le (l : List UInt8) (k : Nat) : lst l k ≤ k := by
  induction k with
  | zero => simp [lst]
  | succ k ih => unfold lst; split <;> omega
/-- of the beginnings of all lines those up to a place are those that the bytes ahead of it tell -/
theorem stK_count (l : List UInt8) (n k : Nat) (hk : k ≤ n) : (stK l n).countP (fun x => decide (x ≤ k)) = (stK l k).length := by
  obtain ⟨M, h1, h2⟩ := stK_more l k (n - k)
  rw [show k + (n - k) = n by omega] at h1
  rw [h1, List.countP_append, List.countP_eq_length.2 (fun x hx => by simpa using stK_le l k x hx), List.countP_eq_zero.2 (fun x hx => by have := h2 x hx; simp; omega)]
  omega
theorem stK_at (l : List UInt8) (n k i : Nat) (hk : k ≤ n) (hi : i < (stK l k).length) : (stK l n)[i]? = (stK l k)[i]? := by
  obtain ⟨M, h1, _⟩ := stK_more l k (n - k)
  rw [show k + (n - k) = n by omega] at h1
  rw [h1, List.getElem?_append_left hi]
/-- which beginnings stand up to a place -/
theorem stK_upto (l : List UInt8) (n k i x : Nat) (hk : k ≤ n) (hx : (stK l n)[i]? = some x) : (x ≤ k) ↔ i < (stK l k).length := by
  constructor
  · intro h
    by_cases hi : i < (stK l k).length
    · exact hi
    · exfalso
      obtain ⟨M, h1, h2⟩ := stK_more l k (n - k)
      rw [show k + (n - k) = n by omega] at h1
      rw [h1, List.getElem?_append_right (by omega)] at hx
      have := h2 x (List.mem_of_getElem? hx)
      omega
  · intro h
    rw [stK_at l n k i hk h] at hx
    exact stK_le l k x (List.mem_of_getElem? hx)

/-- e is where the line that begins at a ends, of n bytes -/
def IsEnd (l : List UInt8) (n a e : Nat) : Prop := a ≤ e ∧ e ≤ n ∧ (∀ j, a ≤ j → j < e → l[j]? ≠ some 10) ∧ (e = n ∨ l[e]? = some 10)
theorem isEnd_one {l : List UInt8} {n a e f : Nat} (h : IsEnd l n a e) (k : IsEnd l n a f) : e = f := by
  obtain ⟨h1, h2, h3, h4⟩ := h
  obtain ⟨k1, k2, k3, k4⟩ := k
  rcases Nat.lt_trichotomy e f with hlt | rfl | hgt
  · exact absurd (h4.resolve_left (by omega)) (k3 e h1 hlt)
  · rfl
  · exact absurd (k4.resolve_left (by omega)) (h3 f k1 hgt)
/-- what the beginnings are -/
theorem stK_what (l : List UInt8) (n : Nat) : ∀ i a, (stK l n)[i]? = some a → a ≤ n ∧
    (∀ b, (stK l n)[i + 1]? = some b → a < b ∧ b ≤ n ∧ l[b - 1]? = some 10 ∧ ∀ j, a ≤ j → j < b - 1 → l[j]? ≠ some 10) ∧
    (i + 1 = (stK l n).length → ∀ j, a ≤ j → j < n → l[j]? ≠ some 10) := by
  induction n with
  | zero =>
    intro i a h
    have hi : i < 1 := (List.getElem?_eq_some_iff.1 h).1
    obtain rfl : i = 0 := by omega
    simp [stK] at h
    subst h
    refine ⟨Nat.le_refl _, fun b hb => ?_, fun _ j _ hj => by omega⟩
    simp [stK] at hb
  | succ n ih =>
    intro i a h
    by_cases h10 : l[n]? = some 10
    · have e : stK l (n + 1) = stK l n ++ [n + 1] := by rw [stK, if_pos h10]
      rw [e] at h ⊢
      by_cases hi : i < (stK l n).length
      · rw [List.getElem?_append_left hi] at h
        obtain ⟨h1, h2, h3⟩ := ih i a h
        refine ⟨by omega, fun b hb => ?_, fun hl => by simp at hl; omega⟩
        by_cases hi2 : i + 1 < (stK l n).length
        · rw [List.getElem?_append_left hi2] at hb
          obtain ⟨q1, q2, q3, q4⟩ := h2 b hb
          exact ⟨q1, by omega, q3, q4⟩
        · have hie : i + 1 = (stK l n).length := by omega
          rw [List.getElem?_append_right (by omega), hie, Nat.sub_self] at hb
          simp at hb
          subst hb
          exact ⟨by omega, Nat.le_refl _, by simpa using h10, fun j hj hj2 => h3 hie j hj (by omega)⟩
      · have hlen := (List.getElem?_eq_some_iff.1 h).1
        simp at hlen
        have hie : i = (stK l n).length := by omega
        rw [List.getElem?_append_right (by omega), hie, Nat.sub_self] at h
        simp at h
        subst h
        refine ⟨Nat.le_refl _, fun b hb => ?_, fun _ j hj hj2 => by omega⟩
        have := (List.getElem?_eq_some_iff.1 hb).1
        simp at this; omega
    · have e : stK l (n + 1) = stK l n := by rw [stK, if_neg h10, List.append_nil]
      rw [e] at h ⊢
      obtain ⟨h1, h2, h3⟩ := ih i a h
      refine ⟨by omega, fun b hb => ?_, fun hl j hj hj2 => ?_⟩
      · obtain ⟨q1, q2, q3, q4⟩ := h2 b hb
        exact ⟨q1, by omega, q3, q4⟩
      · by_cases hjn : j = n
        · subst hjn; exact h10
        · exact h3 hl j hj (by omega)
/-- the end of a line that is not the last one -/
theorem stK_end (l : List UInt8) (n i a b : Nat) (h : (stK l n)[i]? = some a) (k : (stK l n)[i + 1]? = some b) : IsEnd l n a (b - 1) ∧ 0 < b ∧ a ≤ b - 1 ∧ b ≤ n := by
  obtain ⟨h1, h2, _⟩ := stK_what l n i a h
  obtain ⟨q1, q2, q3, q4⟩ := h2 b k
  exact ⟨⟨by omega, by omega, q4, .inr q3⟩, by omega, by omega, q2⟩
theorem stK_end_last (l : List UInt8) (n i a : Nat) (h : (stK l n)[i]? = some a) (k : i + 1 = (stK l n).length) : IsEnd l n a n := by
  obtain ⟨h1, _, h3⟩ := stK_what l n i a h
  exact ⟨h1, Nat.le_refl _, h3 k, .inl rfl⟩
end Go.Proofs.Ythbjiecckehckab
