/-
  Layer 11, plain: lists of numbers of kids; trees in a row.
-/
import Init
namespace Go.Proofs.YtoffjpgobhcipaaDoor

/-- how many of a list's numbers n trees in a row take; none: the list ends within -/
def skipN : List Int → Nat → Option Nat
  | _, 0 => some 0
  | [], _ + 1 => none
  | k :: l, n + 1 => if k < 0 then none else (skipN l (n + k.toNat)).map (· + 1)
theorem skip_zero (l : List Int) : skipN l 0 = some 0 := by cases l <;> rfl
theorem skip_nil (n : Nat) : skipN [] (n + 1) = none := rfl
theorem skip_cons (k : Int) (l : List Int) (n : Nat) : skipN (k :: l) (n + 1) = if k < 0 then none else (skipN l (n + k.toNat)).map (· + 1) := rfl
theorem skip_le : ∀ (l : List Int) (n p : Nat), skipN l n = some p → n ≤ p ∧ p ≤ l.length := by
  intro l
  induction l with
  | nil =>
    intro n p h
    cases n with
    | zero => rw [skip_zero] at h; injection h with h; simp; omega
    | succ n => cases h
  | cons k l ih =>
    intro n p h
    cases n with
    | zero => rw [skip_zero] at h; injection h with h; simp; omega
    | succ n =>
      rw [skip_cons] at h
      split at h
      · cases h
      · obtain ⟨q, hq, e⟩ := Option.map_eq_some_iff.1 h
        have := ih _ _ hq
        simp only [List.length_cons]
        omega
theorem skip_add : ∀ (l : List Int) (a b : Nat), skipN l (a + b) = (skipN l a).bind fun p => (skipN (l.drop p) b).map (p + ·) := by
  intro l
  induction l with
  | nil =>
    intro a b
    cases a with
    | zero => rw [Nat.zero_add, skip_zero]; simp
    | succ a => rw [show a + 1 + b = (a + b) + 1 by omega, skip_nil, skip_nil]; rfl
  | cons k l ih =>
    intro a b
    cases a with
    | zero => rw [Nat.zero_add, skip_zero]; simp
    | succ a =>
      rw [show a + 1 + b = (a + b) + 1 by omega, skip_cons, skip_cons]
      by_cases hk : k < 0
      · rw [if_pos hk, if_pos hk]; rfl
      · rw [if_neg hk, if_neg hk, show a + b + k.toNat = (a + k.toNat) + b by omega, ih]
        cases skipN l (a + k.toNat) with
        | none => rfl
        | some p =>
          simp only [Option.bind_some, Option.map_some, List.drop_succ_cons]
          cases skipN (l.drop p) b with
          | none => rfl
          | some q => simp only [Option.map_some, Option.some.injEq]; omega
/-- each place ahead of the end begins a tree that ends there -/
theorem skip_sub : ∀ (l : List Int) (n p i : Nat), skipN l n = some p → i < p → ∃ q, skipN (l.drop i) 1 = some q ∧ 1 ≤ q ∧ i + q ≤ p := by
  intro l
  induction l with
  | nil =>
    intro n p i h hi
    have := skip_le _ _ _ h
    simp at this
    omega
  | cons k l ih =>
    intro n p i h hi
    cases n with
    | zero => rw [skip_zero] at h; injection h with h; omega
    | succ n =>
      cases i with
      | zero =>
        have h1 := skip_add (k :: l) 1 n
        rw [show 1 + n = n + 1 by omega, h] at h1
        cases h2 : skipN (k :: l) 1 with
        | none => rw [h2] at h1; cases h1
        | some q =>
          rw [h2] at h1
          simp only [Option.bind_some] at h1
          obtain ⟨r, _, e⟩ := Option.map_eq_some_iff.1 h1.symm
          have := skip_le _ _ _ h2
          exact ⟨q, h2, by omega, by omega⟩
      | succ i =>
        rw [skip_cons] at h
        split at h
        · cases h
        · obtain ⟨q, hq, e⟩ := Option.map_eq_some_iff.1 h
          obtain ⟨r, hr, h1, h2⟩ := ih _ _ i hq (by omega)
          exact ⟨r, by rw [List.drop_succ_cons]; exact hr, h1, by omega⟩
/-- is a list of numbers of kids one tree? -/
def wellB (K : List Int) : Bool := skipN K 1 == some K.length
theorem well_iff (K : List Int) : wellB K = true ↔ skipN K 1 = some K.length := by unfold wellB; simp
/-- the number behind the tree that begins at i; i, if there is none -/
def endN (K : List Int) (i : Nat) : Nat := i + (skipN (K.drop i) 1).getD 0
/-- n trees from i on end at j -/
def Goes (K : List Int) (i n j : Nat) : Prop := ∃ p, skipN (K.drop i) n = some p ∧ j = i + p
theorem goes_zero (K : List Int) (i : Nat) : Goes K i 0 i := ⟨0, skip_zero _, rfl⟩
theorem goes_fun {K : List Int} {i n j k : Nat} (h : Goes K i n j) (g : Goes K i n k) : j = k := by
  obtain ⟨p, hp, rfl⟩ := h
  obtain ⟨q, hq, rfl⟩ := g
  rw [hp] at hq; injection hq with hq; omega
theorem goes_le {K : List Int} {i n j : Nat} (h : Goes K i n j) : i + n ≤ j ∧ (j ≤ K.length ∨ j = i) := by
  obtain ⟨p, hp, rfl⟩ := h
  have := skip_le _ _ _ hp
  rw [List.length_drop] at this
  omega
theorem goes_add {K : List Int} {i a b j : Nat} : Goes K i (a + b) j ↔ ∃ m, Goes K i a m ∧ Goes K m b j := by
  constructor
  · rintro ⟨p, hp, rfl⟩
    rw [skip_add] at hp
    cases h2 : skipN (K.drop i) a with
    | none => rw [h2] at hp; cases hp
    | some q =>
      rw [h2] at hp
      simp only [Option.bind_some, List.drop_drop] at hp
      obtain ⟨r, hr, e⟩ := Option.map_eq_some_iff.1 hp
      exact ⟨i + q, ⟨q, h2, rfl⟩, ⟨r, hr, by omega⟩⟩
  · rintro ⟨m, ⟨q, hq, rfl⟩, r, hr, rfl⟩
    refine ⟨q + r, ?_, by omega⟩
    rw [skip_add, hq]
    simp only [Option.bind_some, List.drop_drop]
    rw [hr]; rfl
/-- one step: the number at i, and its kids behind it -/
theorem goes_succ {K : List Int} {i n j : Nat} : Goes K i (n + 1) j ↔ ∃ k, K[i]? = some k ∧ 0 ≤ k ∧ Goes K (i + 1) (n + k.toNat) j := by
  constructor
  · rintro ⟨p, hp, rfl⟩
    by_cases hi : i < K.length
    · rw [List.drop_eq_getElem_cons hi, skip_cons] at hp
      split at hp
      · cases hp
      · rename_i hk
        obtain ⟨q, hq, e⟩ := Option.map_eq_some_iff.1 hp
        exact ⟨K[i], List.getElem?_eq_getElem hi, by omega, q, hq, by omega⟩
    · rw [List.drop_of_length_le (by omega)] at hp; cases hp
  · rintro ⟨k, hk, h0, q, hq, rfl⟩
    obtain ⟨hi, rfl⟩ := List.getElem?_eq_some_iff.1 hk
    refine ⟨q + 1, ?_, by omega⟩
    rw [List.drop_eq_getElem_cons hi, skip_cons, if_neg (by omega), hq]; rfl
theorem goes_len {K : List Int} {i n j : Nat} (h : Goes K i (n + 1) j) : j ≤ K.length := by
  rcases goes_le h with ⟨h1, h2 | h2⟩
  · exact h2
  · omega
theorem goes_sub {K : List Int} {i n j k : Nat} (h : Goes K i n j) (h1 : i ≤ k) (h2 : k < j) : ∃ m, Goes K k 1 m ∧ k < m ∧ m ≤ j := by
  obtain ⟨p, hp, rfl⟩ := h
  obtain ⟨q, hq, h3, h4⟩ := skip_sub _ _ _ (k - i) hp (by omega)
  rw [List.drop_drop, show i + (k - i) = k by omega] at hq
  exact ⟨k + q, ⟨q, hq, rfl⟩, by omega, by omega⟩
theorem goes_end {K : List Int} {i j : Nat} (h : Goes K i 1 j) : endN K i = j := by
  obtain ⟨p, hp, rfl⟩ := h
  unfold endN; rw [hp]; rfl
theorem end_goes {K : List Int} {i n j k : Nat} (h : Goes K i n j) (h1 : i ≤ k) (h2 : k < j) : Goes K k 1 (endN K k) ∧ k < endN K k ∧ endN K k ≤ j := by
  obtain ⟨m, g, a, b⟩ := goes_sub h h1 h2
  rw [goes_end g]; exact ⟨g, a, b⟩
theorem well_goes {K : List Int} : wellB K = true ↔ Goes K 0 1 K.length := by
  rw [well_iff]
  constructor
  · intro h; exact ⟨_, h, by omega⟩
  · rintro ⟨p, hp, e⟩; rw [List.drop_zero] at hp; rw [hp]; congr 1; omega
/-- the kids that begin at a place -/
def kidsFrom (K : List Int) : Nat → Nat → List Nat
  | 0, _ => []
  | m + 1, p => p :: kidsFrom K m (endN K p)
/-- the kids of i -/
def kidsN (K : List Int) (i : Nat) : List Nat := kidsFrom K (K.getD i 0).toNat (i + 1)
theorem kids_len (K : List Int) : ∀ m p, (kidsFrom K m p).length = m := by
  intro m
  induction m with
  | zero => intro p; rfl
  | succ m ih => intro p; simp [kidsFrom, ih]
/-- what stands above i: the last place ahead whose tree reaches beyond i -/
def upFrom (K : List Int) (i : Nat) : Nat → Int
  | 0 => -1
  | j + 1 => if i < endN K j then j else upFrom K i j
def upN (K : List Int) (i : Nat) : Int := upFrom K i i
/-- where trees stand one behind the other from j + 1 on to i, the one at j reaches beyond i just if it has more kids than these -/
theorem up_step {K : List Int} {j i t : Nat} {k : Int} (hw : wellB K = true) (hi : i < K.length) (hk : K[j]? = some k) (hg : Goes K (j + 1) t i) :
    (t < k.toNat → i < endN K j) ∧ (k.toNat ≤ t → Goes K j (t + 1 - k.toNat) i ∧ endN K j ≤ i) := by
  have hj : j < K.length := (List.getElem?_eq_some_iff.1 hk).1
  obtain ⟨g0, g1, g2⟩ := end_goes (well_goes.1 hw) (Nat.zero_le j) hj
  obtain ⟨k', hk', h0, g3⟩ := (goes_succ (n := 0)).1 g0
  rw [hk] at hk'
  injection hk' with hk'
  subst hk'
  rw [Nat.zero_add] at g3
  constructor
  · intro h
    rw [show k.toNat = t + (k.toNat - t) by omega] at g3
    obtain ⟨m, a, b⟩ := goes_add.1 g3
    obtain rfl := goes_fun a hg
    have := goes_le b
    omega
  · intro h
    have hg' := hg
    rw [show t = k.toNat + (t - k.toNat) by omega] at hg'
    obtain ⟨m, a, b⟩ := goes_add.1 hg'
    obtain rfl := goes_fun a g3
    refine ⟨?_, by have := goes_le b; omega⟩
    rw [show t + 1 - k.toNat = (t - k.toNat) + 1 by omega]
    exact goes_succ.2 ⟨k, hk, h0, by rw [show t - k.toNat + k.toNat = t by omega]; exact hg⟩

theorem up_from (K : List Int) (i : Nat) : ∀ j, upFrom K i j = -1 ∨ (0 ≤ upFrom K i j ∧ upFrom K i j < j) := by
  intro j
  induction j with
  | zero => exact .inl rfl
  | succ j ih =>
    unfold upFrom
    split
    · exact .inr ⟨by omega, by omega⟩
    · rcases ih with h | h
      · exact .inl h
      · exact .inr ⟨h.1, by omega⟩
theorem up_lt (K : List Int) (i : Nat) : upN K i = -1 ∨ (0 ≤ upN K i ∧ upN K i < i) := up_from K i i
theorem up_is {K : List Int} {i j : Nat} : ∀ n, j < n → i < endN K j → (∀ k, j < k → k < n → endN K k ≤ i) → upFrom K i n = j := by
  intro n
  induction n with
  | zero => intro h; omega
  | succ n ih =>
    intro h h1 h2
    unfold upFrom
    by_cases hn : j = n
    · subst hn; rw [if_pos h1]
    · rw [if_neg (by have := h2 n (by omega) (by omega); omega)]
      exact ih (by omega) h1 (fun k a b => h2 k a (by omega))
theorem up_yes {K : List Int} {i j : Nat} (h : i < endN K j) : upFrom K i (j + 1) = j := by unfold upFrom; rw [if_pos h]
theorem up_not {K : List Int} {i j : Nat} (h : endN K j ≤ i) : upFrom K i (j + 1) = upFrom K i j := by
  conv => lhs; unfold upFrom
  rw [if_neg (by omega)]

theorem goes_one {K : List Int} {n m : Nat} (h : Goes K 0 n K.length) (g : Goes K 0 m K.length) : n = m := by
  rcases Nat.lt_trichotomy n m with hl | hl | hl
  · rw [show m = n + (m - n) by omega] at g
    obtain ⟨x, a, b⟩ := goes_add.1 g
    obtain rfl := goes_fun a h
    have := goes_le b
    omega
  · exact hl
  · rw [show n = m + (n - m) by omega] at h
    obtain ⟨x, a, b⟩ := goes_add.1 h
    obtain rfl := goes_fun a g
    have := goes_le b
    omega
open Classical in
/-- how many trees in a row a list is; -1: it is none -/
noncomputable def treesZ (K : List Int) : Int := if h : ∃ n, Goes K 0 n K.length then (h.choose : Int) else -1
theorem trees_is {K : List Int} {n : Nat} (h : Goes K 0 n K.length) : treesZ K = n := by
  have hx : ∃ n, Goes K 0 n K.length := ⟨n, h⟩
  unfold treesZ
  rw [dif_pos hx]
  have := goes_one hx.choose_spec h
  rw [this]
theorem trees_no {K : List Int} (h : ∀ n, ¬ Goes K 0 n K.length) : treesZ K = -1 := by
  unfold treesZ
  rw [dif_neg (fun ⟨n, hn⟩ => h n hn)]
theorem trees_cases (K : List Int) : (∃ n : Nat, treesZ K = n ∧ Goes K 0 n K.length) ∨ (treesZ K = -1 ∧ ∀ n, ¬ Goes K 0 n K.length) := by
  by_cases h : ∃ n, Goes K 0 n K.length
  · obtain ⟨n, hn⟩ := h
    exact .inl ⟨n, trees_is hn, hn⟩
  · exact .inr ⟨trees_no (fun n hn => h ⟨n, hn⟩), fun n hn => h ⟨n, hn⟩⟩
theorem trees_well (K : List Int) : decide (treesZ K = 1) = wellB K := by
  rw [Bool.eq_iff_iff, decide_eq_true_eq, well_goes]
  rcases trees_cases K with ⟨n, h, g⟩ | ⟨h, g⟩
  · rw [h]
    constructor
    · intro e
      obtain rfl : n = 1 := by omega
      exact g
    · intro e; rw [goes_one g e]; rfl
  · rw [h]
    exact ⟨fun e => by omega, fun e => absurd e (g 1)⟩
theorem trees_le (K : List Int) : -1 ≤ treesZ K ∧ treesZ K ≤ K.length := by
  rcases trees_cases K with ⟨n, h, g⟩ | ⟨h, _⟩
  · have := goes_le g; omega
  · omega
/-- on the way through a list: t trees have begun, o are to come till the last of them ends at i -/
def TrAt (K : List Int) (i t o : Nat) : Prop :=
  i + o ≤ K.length ∧ (∀ r e, Goes K 0 (t + r) e ↔ Goes K i (o + r) e) ∧ (1 ≤ t → ∃ s, s ≤ i ∧ Goes K 0 (t - 1) s) ∧ (o = 0 → Goes K 0 t i) ∧ t ≤ i
theorem trAt_zero (K : List Int) : TrAt K 0 0 0 := ⟨by omega, fun r e => Iff.rfl, fun h => by omega, fun _ => goes_zero _ _, Nat.le_refl _⟩
/-- a tree begins -/
theorem trAt_begin {K : List Int} {i t : Nat} (h : TrAt K i t 0) (hi : i < K.length) :
    i + 1 ≤ K.length ∧ (∀ r e, Goes K 0 (t + 1 + r) e ↔ Goes K i (1 + r) e) ∧ (∃ s, s ≤ i ∧ Goes K 0 t s) := by
  obtain ⟨h1, h2, h3, h4, h5⟩ := h
  refine ⟨hi, fun r e => ?_, i, Nat.le_refl _, h4 rfl⟩
  have := h2 (1 + r) e
  rw [Nat.add_assoc, this, Nat.zero_add]
theorem trAt_step {K : List Int} {i t o : Nat} {k : Int} (hk : K[i]? = some k) (h0 : 0 ≤ k) (hr : (o : Int) + k ≤ ((K.length - 1 - i : Nat) : Int)) (hti : t ≤ i + 1)
    (h2 : ∀ r e, Goes K 0 (t + r) e ↔ Goes K i (o + 1 + r) e) (h3 : ∃ s, s ≤ i ∧ Goes K 0 (t - 1) s) : TrAt K (i + 1) t (o + k.toNat) := by
  have hi := (List.getElem?_eq_some_iff.1 hk).1
  have hA : ∀ r e, Goes K 0 (t + r) e ↔ Goes K (i + 1) (o + k.toNat + r) e := by
    intro r e
    rw [h2, show o + 1 + r = (o + r) + 1 by omega, goes_succ]
    constructor
    · rintro ⟨k', hk', _, g⟩
      rw [hk] at hk'; injection hk' with hk'; subst hk'
      rw [show o + k.toNat + r = o + r + k.toNat by omega]; exact g
    · intro g
      exact ⟨k, hk, h0, by rw [show o + r + k.toNat = o + k.toNat + r by omega]; exact g⟩
  refine ⟨by omega, hA, fun _ => ?_, fun hz => ?_, hti⟩
  · obtain ⟨s, hs, g⟩ := h3; exact ⟨s, by omega, g⟩
  · have := (hA 0 (i + 1)).2 (by rw [hz]; exact goes_zero _ _)
    exact this
theorem trAt_fail {K : List Int} {i t o : Nat} {k : Int} (hk : K[i]? = some k) (hr : k < 0 ∨ ((K.length - 1 - i : Nat) : Int) < (o : Int) + k) (ht : 1 ≤ t)
    (h2 : ∀ r e, Goes K 0 (t + r) e ↔ Goes K i (o + 1 + r) e) (h3 : ∃ s, s ≤ i ∧ Goes K 0 (t - 1) s) : treesZ K = -1 := by
  have hi := (List.getElem?_eq_some_iff.1 hk).1
  refine trees_no fun n hn => ?_
  by_cases hnt : t ≤ n
  · rw [show n = t + (n - t) by omega, h2, show o + 1 + (n - t) = (o + (n - t)) + 1 by omega, goes_succ] at hn
    obtain ⟨k', hk', h0, g⟩ := hn
    rw [hk] at hk'; injection hk' with hk'; subst hk'
    have := goes_le g
    omega
  · obtain ⟨s, hs, g⟩ := h3
    rw [show t - 1 = n + (t - 1 - n) by omega] at g
    obtain ⟨x, a, b⟩ := goes_add.1 g
    obtain rfl := goes_fun a hn
    have := goes_le b
    omega
theorem trAt_end {K : List Int} {t o : Nat} (h : TrAt K K.length t o) : treesZ K = t := by
  obtain ⟨h1, _, _, h4, _⟩ := h
  exact trees_is (h4 (by omega))
/-- the document's way: tree by tree -/
theorem trees_next {K : List Int} {n at_ m : Nat} (h : Goes K 0 n at_) (g : Goes K at_ 1 m) : Goes K 0 (n + 1) m := goes_add.2 ⟨at_, h, g⟩
theorem trees_stop {K : List Int} {n p : Nat} (h : Goes K 0 n p) (hp : p < K.length) (hn : ∀ m, ¬ Goes K p 1 m) : treesZ K = -1 := by
  refine trees_no fun x hx => ?_
  rcases Nat.lt_or_ge n x with hl | hl
  · rw [show x = n + (1 + (x - n - 1)) by omega] at hx
    obtain ⟨y, a, b⟩ := goes_add.1 hx
    obtain rfl := goes_fun a h
    obtain ⟨z, c, _⟩ := goes_add.1 b
    exact hn z c
  · rw [show n = x + (n - x) by omega] at h
    obtain ⟨y, a, b⟩ := goes_add.1 h
    obtain rfl := goes_fun a hx
    have := goes_le b
    omega
/-- the number behind the tree at i, -1 if the list ends within -/
def endZ (K : List Int) (i : Nat) : Int := match skipN (K.drop i) 1 with | some p => ((i + p : Nat) : Int) | none => -1
theorem endZ_cases (K : List Int) (i : Nat) : (∃ e : Nat, endZ K i = e ∧ Goes K i 1 e ∧ i < e ∧ e ≤ K.length) ∨ (endZ K i = -1 ∧ ∀ m, ¬ Goes K i 1 m) := by
  unfold endZ
  cases h : skipN (K.drop i) 1 with
  | none => exact .inr ⟨rfl, fun m ⟨p, hp, _⟩ => by rw [h] at hp; cases hp⟩
  | some p =>
    have g : Goes K i 1 (i + p) := ⟨p, h, rfl⟩
    have h1 := goes_le g
    exact .inl ⟨i + p, rfl, g, by omega, by omega⟩
theorem endZ_stop {K : List Int} {i k : Nat} {m : Nat} (h : ∀ e, Goes K i 1 e ↔ Goes K k m e) (hm : m = 0) : endZ K i = k := by
  subst hm
  rcases endZ_cases K i with ⟨e, h1, g, _⟩ | ⟨_, g⟩
  · rw [h1, goes_fun ((h e).1 g) (goes_zero K k)]
  · exact absurd ((h k).2 (goes_zero K k)) (g k)
theorem endZ_fail {K : List Int} {i k : Nat} {m : Nat} (h : ∀ e, Goes K i 1 e ↔ Goes K k (m + 1) e) (hk : K.length ≤ k ∨ ∃ x, K[k]? = some x ∧ (x < 0 ∨ (K.length : Int) < x)) : endZ K i = -1 := by
  rcases endZ_cases K i with ⟨e, h1, g, _⟩ | ⟨h1, _⟩
  · exfalso
    have g1 := (h e).1 g
    obtain ⟨x, hx, h0, g2⟩ := goes_succ.1 g1
    rcases hk with hk | ⟨y, hy, hk⟩
    · have := (List.getElem?_eq_some_iff.1 hx).1; omega
    · rw [hy] at hx; injection hx with hx; subst hx
      have h3 := goes_len g1
      have := goes_le g2
      omega
  · exact h1
theorem endZ_step {K : List Int} {i k m : Nat} {x : Int} (h : ∀ e, Goes K i 1 e ↔ Goes K k (m + 1) e) (hx : K[k]? = some x) (h0 : 0 ≤ x) : ∀ e, Goes K i 1 e ↔ Goes K (k + 1) (m + x.toNat) e := by
  intro e
  rw [h, goes_succ]
  constructor
  · rintro ⟨y, hy, _, g⟩
    rw [hx] at hy; injection hy with hy; subst hy; exact g
  · intro g; exact ⟨x, hx, h0, g⟩
theorem kids_end {K : List Int} {m p e : Nat} (h : Goes K p (m + 1) e) : Goes K p 1 (endN K p) ∧ Goes K (endN K p) m e ∧ p < K.length := by
  rw [show m + 1 = 1 + m by omega] at h
  obtain ⟨a, g1, g2⟩ := goes_add.1 h
  rw [goes_end g1]
  have := goes_len g1
  have := goes_le g1
  exact ⟨g1, g2, by omega⟩
theorem endZ_well {K : List Int} (h : wellB K = true) {i : Nat} (hi : i < K.length) : endZ K i = endN K i := by
  obtain ⟨g, _⟩ := end_goes (well_goes.1 h) (Nat.zero_le i) hi
  rcases endZ_cases K i with ⟨e, h1, g2, _⟩ | ⟨_, g2⟩
  · rw [h1, goes_end g2]
  · exact absurd g (g2 _)
/-- a part -/
structure Pt where
  kind : Nat
  kids : Int
  word : ByteArray
def pt0 : Pt := ⟨0, 0, ⟨#[]⟩⟩
def kidsP (l : List Pt) : List Int := l.map (·.kids)
theorem kidsP_len (l : List Pt) : (kidsP l).length = l.length := by simp [kidsP]
theorem kidsP_at {l : List Pt} {i : Nat} {p : Pt} (h : l[i]? = some p) : (kidsP l)[i]? = some p.kids := by simp [kidsP, h]
theorem kidsP_of {l : List Pt} {i : Nat} {k : Int} (h : (kidsP l)[i]? = some k) : ∃ p, l[i]? = some p ∧ p.kids = k := by
  unfold kidsP at h
  rw [List.getElem?_map] at h
  cases hp : l[i]? with
  | none => rw [hp] at h; cases h
  | some p => rw [hp] at h; exact ⟨p, rfl, by simpa using h⟩
end Go.Proofs.YtoffjpgobhcipaaDoor
