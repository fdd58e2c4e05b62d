/-
  Layers 10 and 11, plain: lists of numbers of kids, read as trees.
-/
namespace Go.Proofs.Ytdlpminekojahaa

/-- how many of a list's numbers n trees in a row take; none: the list ends within -/
def skipN : List Int → Nat → Option Nat
  | _, 0 => some 0
  | [], _ + 1 => none
  | k :: l, n + 1 => if k < 0 then none else (skipN l (n + k.toNat)).map (· + 1)
theorem skip_zero (l : List Int) : skipN l 0 = some 0 := by cases l <;> rfl
theorem skip_nil (n : Nat) : skipN [] (n + 1) = none := rfl
theorem skip_cons (k : Int) (l : List Int) (n : Nat) : skipN (k :: l) (n + 1) = if k < 0 then none else (skipN l (n + k.toNat)).map (· + 1) := rfl
theorem skip_le : ∀ (l : List Int) (n p : Nat), skipN l n = some p → n ≤ p ∧ p ≤ l.length := by
  intro l
  induction l with
  | nil =>
    intro n p h
    cases n with
    | zero => rw [skip_zero] at h; injection h with h; simp; omega
    | succ n => cases h
  | cons k l ih =>
    intro n p h
    cases n with
    | zero => rw [skip_zero] at h; injection h with h; simp; omega
    | succ n =>
      rw [skip_cons] at h
      split at h
      · cases h
      · obtain ⟨q, hq, e⟩ := Option.map_eq_some_iff.1 h
        have := ih _ _ hq
        simp only [List.length_cons]
        omega
theorem skip_add : ∀ (l : List Int) (a b : Nat), skipN l (a + b) = (skipN l a).bind fun p => (skipN (l.drop p) b).map (p + ·) := by
  intro l
  induction l with
  | nil =>
    intro a b
    cases a with
    | zero => rw [Nat.zero_add, skip_zero]; simp
    | succ a => rw [show a + 1 + b = (a + b) + 1 by omega, skip_nil, skip_nil]; rfl
  | cons k l ih =>
    intro a b
    cases a with
    | zero => rw [Nat.zero_add, skip_zero]; simp
    | succ a =>
      rw [show a + 1 + b = (a + b) + 1 by omega, skip_cons, skip_cons]
      by_cases hk : k < 0
      · rw [if_pos hk, if_pos hk]; rfl
      · rw [if_neg hk, if_neg hk, show a + b + k.toNat = (a + k.toNat) + b by omega, ih]
        cases skipN l (a + k.toNat) with
        | none => rfl
        | some p =>
          simp only [Option.bind_some, Option.map_some, List.drop_succ_cons]
          cases skipN (l.drop p) b with
          | none => rfl
          | some q => simp only [Option.map_some, Option.some.injEq]; omega
/-- each place ahead of the end begins a tree that ends there -/
theorem skip_sub : ∀ (l : List Int) (n p i : Nat), skipN l n = some p → i < p → ∃ q, skipN (l.drop i) 1 = some q ∧ 1 ≤ q ∧ i + q ≤ p := by
  intro l
  induction l with
  | nil =>
    intro n p i h hi
    have := skip_le _ _ _ h
    simp at this
    omega
  | cons k l ih =>
    intro n p i h hi
    cases n with
    | zero => rw [skip_zero] at h; injection h with h; omega
    | succ n =>
      cases i with
      | zero =>
        have h1 := skip_add (k :: l) 1 n
        rw [show 1 + n = n + 1 by omega, h] at h1
        cases h2 : skipN (k :: l) 1 with
        | none => rw [h2] at h1; cases h1
        | some q =>
          rw [h2] at h1
          simp only [Option.bind_some] at h1
          obtain ⟨r, _, e⟩ := Option.map_eq_some_iff.1 h1.symm
          have := skip_le _ _ _ h2
          exact ⟨q, h2, by omega, by omega⟩
      | succ i =>
        rw [skip_cons] at h
        split at h
        · cases h
        · obtain ⟨q, hq, e⟩ := Option.map_eq_some_iff.1 h
          obtain ⟨r, hr, h1, h2⟩ := ih _ _ i hq (by omega)
          exact ⟨r, by rw [List.drop_succ_cons]; exact hr, h1, by omega⟩
/-- is a list of numbers of kids one tree? -/
def wellB (K : List Int) : Bool := skipN K 1 == some K.length
theorem well_iff (K : List Int) : wellB K = true ↔ skipN K 1 = some K.length := by unfold wellB; simp
/-- the number behind the tree that begins at i; i, if there is none -/
def endN (K : List Int) (i : Nat) : Nat := i + (skipN (K.drop i) 1).getD 0
/-- n trees from i on end at j -/
def Goes (K : List Int) (i n j : Nat) : Prop := ∃ p, skipN (K.drop i) n = some p ∧ j = i + p
theorem goes_zero (K : List Int) (i : Nat) : Goes K i 0 i := ⟨0, skip_zero _, rfl⟩
theorem goes_fun {K : List Int} {i n j k : Nat} (h : Goes K i n j) (g : Goes K i n k) : j = k := by
  obtain ⟨p, hp, rfl⟩ := h
  obtain ⟨q, hq, rfl⟩ := g
  rw [hp] at hq; injection hq with hq; omega
theorem goes_le {K : List Int} {i n j : Nat} (h : Goes K i n j) : i + n ≤ j ∧ (j ≤ K.length ∨ j = i) := by
  obtain ⟨p, hp, rfl⟩ := h
  have := skip_le _ _ _ hp
  rw [List.length_drop] at this
  omega
theorem goes_add {K : List Int} {i a b j : Nat} : Goes K i (a + b) j ↔ ∃ m, Goes K i a m ∧ Goes K m b j := by
  constructor
  · rintro ⟨p, hp, rfl⟩
    rw [skip_add] at hp
    cases h2 : skipN (K.drop i) a with
    | none => rw [h2] at hp; cases hp
    | some q =>
      rw [h2] at hp
      simp only [Option.bind_some, List.drop_drop] at hp
      obtain ⟨r, hr, e⟩ := Option.map_eq_some_iff.1 hp
      exact ⟨i + q, ⟨q, h2, rfl⟩, ⟨r, hr, by omega⟩⟩
  · rintro ⟨m, ⟨q, hq, rfl⟩, r, hr, rfl⟩
    refine ⟨q + r, ?_, by omega⟩
    rw [skip_add, hq]
    simp only [Option.bind_some, List.drop_drop]
    rw [hr]; rfl
/-- one step: the number at i, and its kids behind it -/
theorem goes_succ {K : List Int} {i n j : Nat} : Goes K i (n + 1) j ↔ ∃ k, K[i]? = some k ∧ 0 ≤ k ∧ Goes K (i + 1) (n + k.toNat) j := by
  constructor
  · rintro ⟨p, hp, rfl⟩
    by_cases hi : i < K.length
    · rw [List.drop_eq_getElem_cons hi, skip_cons] at hp
      split at hp
      · cases hp
      · rename_i hk
        obtain ⟨q, hq, e⟩ := Option.map_eq_some_iff.1 hp
        exact ⟨K[i], List.getElem?_eq_getElem hi, by omega, q, hq, by omega⟩
    · rw [List.drop_of_length_le (by omega)] at hp; cases hp
  · rintro ⟨k, hk, h0, q, hq, rfl⟩
    obtain ⟨hi, rfl⟩ := List.getElem?_eq_some_iff.1 hk
    refine ⟨q + 1, ?_, by omega⟩
    rw [List.drop_eq_getElem_cons hi, skip_cons, if_neg (by omega), hq]; rfl
theorem goes_len {K : List Int} {i n j : Nat} (h : Goes K i (n + 1) j) : j ≤ K.length := by
  rcases goes_le h with ⟨h1, h2 | h2⟩
  · exact h2
  · omega
theorem goes_sub {K : List Int} {i n j k : Nat} (h : Goes K i n j) (h1 : i ≤ k) (h2 : k < j) : ∃ m, Goes K k 1 m ∧ k < m ∧ m ≤ j := by
  obtain ⟨p, hp, rfl⟩ := h
  obtain ⟨q, hq, h3, h4⟩ := skip_sub _ _ _ (k - i) hp (by omega)
  rw [List.drop_drop, show i + (k - i) = k by omega] at hq
  exact ⟨k + q, ⟨q, hq, rfl⟩, by omega, by omega⟩
theorem goes_end {K : List Int} {i j : Nat} (h : Goes K i 1 j) : endN K i = j := by
  obtain ⟨p, hp, rfl⟩ := h
  unfold endN; rw [hp]; rfl
theorem end_goes {K : List Int} {i n j k : Nat} (h : Goes K i n j) (h1 : i ≤ k) (h2 : k < j) : Goes K k 1 (endN K k) ∧ k < endN K k ∧ endN K k ≤ j := by
  obtain ⟨m, g, a, b⟩ := goes_sub h h1 h2
  rw [goes_end g]; exact ⟨g, a, b⟩
theorem well_goes {K : List Int} : wellB K = true ↔ Goes K 0 1 K.length := by
  rw [well_iff]
  constructor
  · intro h; exact ⟨_, h, by omega⟩
  · rintro ⟨p, hp, e⟩; rw [List.drop_zero] at hp; rw [hp]; congr 1; omega
/-- the kids that begin at a place -/
def kidsFrom (K : List Int) : Nat → Nat → List Nat
  | 0, _ => []
  | m + 1, p => p :: kidsFrom K m (endN K p)
/-- the kids of i -/
def kidsN (K : List Int) (i : Nat) : List Nat := kidsFrom K (K.getD i 0).toNat (i + 1)
theorem kids_len (K : List Int) : ∀ m p, (kidsFrom K m p).length = m := by
  intro m
  induction m with
  | zero => intro p; rfl
  | succ m ih => intro p; simp [kidsFrom, ih]
/-- what stands above i: the last place ahead whose tree reaches beyond i -/
def upFrom (K : List Int) (i : Nat) : Nat → Int
  | 0 => -1
  | j + 1 => if i < endN K j then j else upFrom K i j
def upN (K : List Int) (i : Nat) : Int := upFrom K i i
/-- where trees stand one behind the other from j + 1 on to i, the one at j reaches beyond i just if it has more kids than these -/
theorem up_step {K : List Int} {j i t : Nat} {k : Int} (hw : wellB K = true) (hi : i < K.length) (hk : K[j]? = some k) (hg : Goes K (j + 1) t i) :
    (t < k.toNat → i < endN K j) ∧ (k.toNat ≤ t → Goes K j (t + 1 - k.toNat) i ∧ endN K j ≤ i) := by
  have hj : j < K.length := (List.getElem?_eq_some_iff.1 hk).1
  obtain ⟨g0, g1, g2⟩ := end_goes (well_goes.1 hw) (Nat.zero_le j) hj
  obtain ⟨k', hk', h0, g3⟩ := (goes_succ (n := 0)).1 g0
  rw [hk] at hk'
  injection hk' with hk'
  subst hk'
  rw [Nat.zero_add] at g3
  constructor
  · intro h
    rw [show k.toNat = t + (k.toNat - t) by omega] at g3
    obtain ⟨m, a, b⟩ := goes_add.1 g3
    obtain rfl := goes_fun a hg
    have := goes_le b
    omega
  · intro h
    have hg' := hg
    rw [show t = k.toNat + (t - k.toNat) by omega] at hg'
    obtain ⟨m, a, b⟩ := goes_add.1 hg'
    obtain rfl := goes_fun a g3
    refine ⟨?_, by have := goes_le b; omega⟩
    rw [show t + 1 - k.toNat = (t - k.toNat) + 1 by omega]
    exact goes_succ.2 ⟨k, hk, h0, by rw [show t - k.toNat + k.toNat = t by omega]; exact hg⟩
end Go.Proofs.Ytdlpminekojahaa
