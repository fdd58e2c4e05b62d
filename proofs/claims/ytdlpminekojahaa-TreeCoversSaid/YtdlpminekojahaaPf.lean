/-
  Layer 11, plain: how many trees stand in a row.
-/
import Derived.Test.YtdlpminekojahaaPe
namespace Go.Proofs.Ytdlpminekojahaa

theorem goes_one {K : List Int} {n m : Nat} (h : Goes K 0 n K.length) (g : Goes K 0 m K.length) : n = m := by
  rcases Nat.lt_trichotomy n m with hl | hl | hl
  · rw [show m = n + (m - n) by omega] at g
    obtain ⟨x, a, b⟩ := goes_add.1 g
    obtain rfl := goes_fun a h
    have := goes_le b
    omega
  · exact hl
  · rw [show n = m + (n - m) by omega] at h
    obtain ⟨x, a, b⟩ := goes_add.1 h
    obtain rfl := goes_fun a g
    have := goes_le b
    omega
open Classical in
/-- how many trees in a row a list is; -1: it is none -/
noncomputable def treesZ (K : List Int) : Int := if h : ∃ n, Goes K 0 n K.length then (h.choose : Int) else -1
theorem trees_is {K : List Int} {n : Nat} (h : Goes K 0 n K.length) : treesZ K = n := by
  have hx : ∃ n, Goes K 0 n K.length := ⟨n, h⟩
  unfold treesZ
  rw [dif_pos hx]
  have := goes_one hx.choose_spec h
  rw [this]
theorem trees_no {K : List Int} (h : ∀ n, ¬ Goes K 0 n K.length) : treesZ K = -1 := by
  unfold treesZ
  rw [dif_neg (fun ⟨n, hn⟩ => h n hn)]
theorem trees_cases (K : List Int) : (∃ n : Nat, treesZ K = n ∧ Goes K 0 n K.length) ∨ (treesZ K = -1 ∧ ∀ n, ¬ Goes K 0 n K.length) := by
  by_cases h : ∃ n, Goes K 0 n K.length
  · obtain ⟨n, hn⟩ := h
    exact .inl ⟨n, trees_is hn, hn⟩
  · exact .inr ⟨trees_no (fun n hn => h ⟨n, hn⟩), fun n hn => h ⟨n, hn⟩⟩
theorem trees_well (K : List Int) : decide (treesZ K = 1) = wellB K := by
  rw [Bool.eq_iff_iff, decide_eq_true_eq, well_goes]
  rcases trees_cases K with ⟨n, h, g⟩ | ⟨h, g⟩
  · rw [h]
    constructor
    · intro e
      obtain rfl : n = 1 := by omega
      exact g
    · intro e; rw [goes_one g e]; rfl
  · rw [h]
    exact ⟨fun e => by omega, fun e => absurd e (g 1)⟩
theorem trees_le (K : List Int) : -1 ≤ treesZ K ∧ treesZ K ≤ K.length := by
  rcases trees_cases K with ⟨n, h, g⟩ | ⟨h, _⟩
  · have := goes_le g; omega
  · omega
/-- on the way through a list: t trees have begun, o are to come till the last of them ends at i -/
def TrAt (K : List Int) (i t o : Nat) : Prop :=
  i + o ≤ K.length ∧ (∀ r e, Goes K 0 (t + r) e ↔ Goes K i (o + r) e) ∧ (1 ≤ t → ∃ s, s ≤ i ∧ Goes K 0 (t - 1) s) ∧ (o = 0 → Goes K 0 t i) ∧ t ≤ i
theorem trAt_zero (K : List Int) : TrAt K 0 0 0 := ⟨by omega, fun r e => Iff.rfl, fun h => by omega, fun _ => goes_zero _ _, Nat.le_refl _⟩
/-- a tree begins -/
theorem trAt_begin {K : List Int} {i t : Nat} (h : TrAt K i t 0) (hi : i < K.length) :
    i + 1 ≤ K.length ∧ (∀ r e, Goes K 0 (t + 1 + r) e ↔ Goes K i (1 + r) e) ∧ (∃ s, s ≤ i ∧ Goes K 0 t s) := by
  obtain ⟨h1, h2, h3, h4, h5⟩ := h
  refine ⟨hi, fun r e => ?_, i, Nat.le_refl _, h4 rfl⟩
  have := h2 (1 + r) e
  rw [Nat.add_assoc, this, Nat.zero_add]
theorem trAt_step {K : List Int} {i t o : Nat} {k : Int} (hk : K[i]? = some k) (h0 : 0 ≤ k) (hr : (o : Int) + k ≤ ((K.length - 1 - i : Nat) : Int)) (hti : t ≤ i + 1)
    (h2 : ∀ r e, Goes K 0 (t + r) e ↔ Goes K i (o + 1 + r) e) (h3 : ∃ s, s ≤ i ∧ Goes K 0 (t - 1) s) : TrAt K (i + 1) t (o + k.toNat) := by
  have hi := (List.getElem?_eq_some_iff.1 hk).1
  have hA : ∀ r e, Goes K 0 (t + r) e ↔ Goes K (i + 1) (o + k.toNat + r) e := by
    intro r e
    rw [h2, show o + 1 + r = (o + r) + 1 by omega, goes_succ]
    constructor
    · rintro ⟨k', hk', _, g⟩
      rw [hk] at hk'; injection hk' with hk'; subst hk'
      rw [show o + k.toNat + r = o + r + k.toNat by omega]; exact g
    · intro g
      exact ⟨k, hk, h0, by rw [show o + r + k.toNat = o + k.toNat + r by omega]; exact g⟩
  refine ⟨by omega, hA, fun _ => ?_, fun hz => ?_, hti⟩
  · obtain ⟨s, hs, g⟩ := h3; exact ⟨s, by omega, g⟩
  · have := (hA 0 (i + 1)).2 (by rw [hz]; exact goes_zero _ _)
    exact this
theorem trAt_fail {K : List Int} {i t o : Nat} {k : Int} (hk : K[i]? = some k) (hr : k < 0 ∨ ((K.length - 1 - i : Nat) : Int) < (o : Int) + k) (ht : 1 ≤ t)
    (h2 : ∀ r e, Goes K 0 (t + r) e ↔ Goes K i (o + 1 + r) e) (h3 : ∃ s, s ≤ i ∧ Goes K 0 (t - 1) s) : treesZ K = -1 := by
  have hi := (List.getElem?_eq_some_iff.1 hk).1
  refine trees_no fun n hn => ?_
  by_cases hnt : t ≤ n
  · rw [show n = t + (n - t) by omega, h2, show o + 1 + (n - t) = (o + (n - t)) + 1 by omega, goes_succ] at hn
    obtain ⟨k', hk', h0, g⟩ := hn
    rw [hk] at hk'; injection hk' with hk'; subst hk'
    have := goes_le g
    omega
  · obtain ⟨s, hs, g⟩ := h3
    rw [show t - 1 = n + (t - 1 - n) by omega] at g
    obtain ⟨x, a, b⟩ := goes_add.1 g
    obtain rfl := goes_fun a hn
    have := goes_le b
    omega
theorem trAt_end {K : List Int} {t o : Nat} (h : TrAt K K.length t o) : treesZ K = t := by
  obtain ⟨h1, _, _, h4, _⟩ := h
  exact trees_is (h4 (by omega))
/-- the document's way: tree by tree -/
theorem trees_next {K : List Int} {n at_ m : Nat} (h : Goes K 0 n at_) (g : Goes K at_ 1 m) : Goes K 0 (n + 1) m := goes_add.2 ⟨at_, h, g⟩
theorem trees_stop {K : List Int} {n p : Nat} (h : Goes K 0 n p) (hp : p < K.length) (hn : ∀ m, ¬ Goes K p 1 m) : treesZ K = -1 := by
  refine trees_no fun x hx => ?_
  rcases Nat.lt_or_ge n x with hl | hl
  · rw [show x = n + (1 + (x - n - 1)) by omega] at hx
    obtain ⟨y, a, b⟩ := goes_add.1 hx
    obtain rfl := goes_fun a h
    obtain ⟨z, c, _⟩ := goes_add.1 b
    exact hn z c
  · rw [show n = x + (n - x) by omega] at h
    obtain ⟨y, a, b⟩ := goes_add.1 h
    obtain rfl := goes_fun a hx
    have := goes_le b
    omega
/-- the number behind the tree at i, -1 if the list ends within -/
def endZ (K : List Int) (i : Nat) : Int := match skipN (K.drop i) 1 with | some p => ((i + p : Nat) : Int) | none => -1
theorem endZ_cases (K : List Int) (i : Nat) : (∃ e : Nat, endZ K i = e ∧ Goes K i 1 e ∧ i < e ∧ e ≤ K.length) ∨ (endZ K i = -1 ∧ ∀ m, ¬ Goes K i 1 m) := by
  unfold endZ
  cases h : skipN (K.drop i) 1 with
  | none => exact .inr ⟨rfl, fun m ⟨p, hp, _⟩ => by rw [h] at hp; cases hp⟩
  | some p =>
    have g : Goes K i 1 (i + p) := ⟨p, h, rfl⟩
    have h1 := goes_le g
    exact .inl ⟨i + p, rfl, g, by omega, by omega⟩
end Go.Proofs.Ytdlpminekojahaa
