/-
  Layer 10, plain: what the stack finds is what the document asks of each node.
-/
import Derived.Test.YtdlpminekojahaaPb
namespace Go.Proofs.Ytdlpminekojahaa

/-- a node by itself -/
def selfB (n : Int) (x : Nd) : Bool := decide (x.kind ≤ 68) && (decide (0 ≤ x.lo) && decide (x.lo ≤ x.hi) && decide (x.hi ≤ n)) && (decide (x.word = -1) || (decide (x.lo ≤ x.word) && decide (x.word < x.hi)))
/-- a kid beside the one ahead of it, and its node -/
def kinB (w hi lo : Int) (y : Nd) : Bool := decide (lo ≤ y.lo) && decide (y.lo ≤ y.hi) && decide (y.hi ≤ hi) && !(decide (y.lo ≤ w) && decide (w < y.hi))
def chainB (w hi : Int) : Int → Nat → List Nd → Bool
  | _, 0, _ => true
  | _, _ + 1, [] => true
  | lo, m + 1, y :: l => kinB w hi lo y && chainB w hi y.hi m (l.drop ((skipN (kidsL l) y.kids.toNat).getD 0))
def refN (n : Int) : Nat → List Nd → Bool
  | 0, _ => true
  | _ + 1, [] => true
  | p + 1, x :: l => selfB n x && chainB x.word x.hi x.lo x.kids.toNat l && refN n p l
theorem refN_add (n : Int) : ∀ (a b : Nat) (l : List Nd), refN n (a + b) l = (refN n a l && refN n b (l.drop a)) := by
  intro a
  induction a with
  | zero => intro b l; simp [refN]
  | succ a ih =>
    intro b l
    cases l with
    | nil => cases b <;> simp [refN]
    | cons x l => rw [show a + 1 + b = (a + b) + 1 by omega]; simp only [refN, List.drop_succ_cons]; rw [ih]; simp only [Bool.and_assoc]
theorem fits_kin (w hi lo n : Int) (m : Nat) (x : Nd) (hk : 0 ≤ x.kids) (h0 : 0 ≤ lo) (hn : hi ≤ n) : fitsB ⟨w, hi, lo, m⟩ x = (kinB w hi lo x && selfB n x) := by
  unfold fitsB kinB selfB
  rw [Bool.eq_iff_iff]
  simp only [Bool.and_eq_true, Bool.or_eq_true, decide_eq_true_eq, Bool.not_eq_true', Bool.and_eq_false_iff, decide_eq_false_iff_not]
  omega
theorem self_lo {n : Int} {x : Nd} (h : selfB n x = true) : 0 ≤ x.lo ∧ x.lo ≤ x.hi ∧ x.hi ≤ n := by
  unfold selfB at h
  simp only [Bool.and_eq_true, decide_eq_true_eq] at h
  omega
theorem ok_iff (n : Int) : ∀ (f : Nat) (l : List Nd) (m : Nat) (w hi lo : Int) (p : Nat), l.length ≤ f → skipN (kidsL l) m = some p → 0 ≤ lo → hi ≤ n →
    ((kidsOk w hi lo m l = true ∧ eachOk p l = true) ↔ (chainB w hi lo m l = true ∧ refN n p l = true)) := by
  intro f
  induction f with
  | zero =>
    intro l m w hi lo p hl hs _ _
    obtain rfl : l = [] := List.length_eq_zero_iff.1 (by omega)
    cases m with
    | zero =>
      rw [skip_zero] at hs; injection hs with hs; subst hs
      simp [kidsOk, eachOk, chainB, refN]
    | succ m => cases hs
  | succ f ih =>
    intro l m w hi lo p hl hs h0 hn
    cases m with
    | zero =>
      rw [skip_zero] at hs; injection hs with hs; subst hs
      simp [kidsOk, eachOk, chainB, refN]
    | succ m =>
      cases l with
      | nil => cases hs
      | cons x t =>
        simp only [kidsL, List.map_cons] at hs
        rw [skip_cons] at hs
        split at hs
        · cases hs
        · rename_i hk
          obtain ⟨p', hp', rfl⟩ := Option.map_eq_some_iff.1 hs
          rw [show m + x.kids.toNat = x.kids.toNat + m by omega, skip_add] at hp'
          obtain ⟨p1, s1, hp''⟩ := Option.bind_eq_some_iff.1 hp'
          obtain ⟨p2, s2, rfl⟩ := Option.map_eq_some_iff.1 hp''
          rw [← kidsL] at s1 s2
          rw [← kidsL_drop] at s2
          have hlen : t.length ≤ f := by simp at hl; omega
          simp only [kidsOk, eachOk, chainB, refN, s1, Option.getD_some]
          rw [each_add, refN_add, fits_kin w hi lo n 0 x (by omega) h0 hn]
          have i2 := fun lo => ih (t.drop p1) m w hi lo p2 (by simp; omega) s2
          have i1 := fun w hi lo => ih t x.kids.toNat w hi lo p1 hlen s1
          simp only [Bool.and_eq_true]
          constructor
          · rintro ⟨⟨⟨k, s⟩, a⟩, b, c, d⟩
            have hs := self_lo s
            have j1 := (i1 _ _ _ hs.1 hs.2.2).1 ⟨b, c⟩
            have j2 := (i2 x.hi (by omega) hn).1 ⟨a, d⟩
            exact ⟨⟨k, j2.1⟩, ⟨s, j1.1⟩, j1.2, j2.2⟩
          · rintro ⟨⟨k, a⟩, ⟨s, b⟩, c, d⟩
            have hs := self_lo s
            have j1 := (i1 _ _ _ hs.1 hs.2.2).2 ⟨b, c⟩
            have j2 := (i2 x.hi (by omega) hn).2 ⟨a, d⟩
            exact ⟨⟨⟨k, s⟩, j2.1⟩, j1.1, j1.2, j2.2⟩
/-- a list is a tree of n tokens -/
def treeB (n : Int) (l : List Nd) : Bool := wellB (kidsL l) && refN n l.length l
theorem chk_tree (n : Int) (l : List Nd) : chk l [⟨-1, n, 0, 1⟩] = treeB n l := by
  rw [Bool.eq_iff_iff, chk_run]
  have h := run_iff l.length l 1 (-1) n 0 [] (Nat.le_refl _)
  rw [show norm [⟨-1, n, 0, 1⟩] = [⟨-1, n, 0, 1⟩] from rfl] at h
  rw [h]
  unfold treeB
  rw [Bool.and_eq_true, well_iff, kidsL_len]
  constructor
  · rintro ⟨p, hp, he, hk, ho⟩
    have hle := skip_le _ _ _ hp
    rw [kidsL_len] at hle
    have : p = l.length := by
      have := congrArg List.length he
      simp at this; omega
    subst this
    exact ⟨hp, ((ok_iff n _ l 1 (-1) n 0 _ (Nat.le_refl _) hp (Int.le_refl _) (Int.le_refl _)).1 ⟨hk, ho⟩).2⟩
  · rintro ⟨hp, hr⟩
    refine ⟨_, hp, by simp, (ok_iff n _ l 1 (-1) n 0 _ (Nat.le_refl _) hp (Int.le_refl _) (Int.le_refl _)).2 ⟨?_, hr⟩⟩
    cases l with
    | nil => cases hp
    | cons x t =>
      simp only [List.length_cons, refN, Bool.and_eq_true] at hr
      have hs := self_lo hr.1.1
      simp only [chainB, kinB, Bool.and_eq_true, decide_eq_true_eq, Bool.and_true, Bool.not_eq_true', Bool.and_eq_false_iff, decide_eq_false_iff_not]
      omega
theorem tree_well {n : Int} {l : List Nd} (h : treeB n l = true) : wellB (kidsL l) = true := by
  unfold treeB at h; rw [Bool.and_eq_true] at h; exact h.1
theorem refN_at (n : Int) : ∀ (p : Nat) (l : List Nd), refN n p l = true ↔ ∀ i x, i < p → l[i]? = some x → selfB n x = true ∧ chainB x.word x.hi x.lo x.kids.toNat (l.drop (i + 1)) = true := by
  intro p
  induction p with
  | zero => intro l; simp [refN]
  | succ p ih =>
    intro l
    cases l with
    | nil => simp [refN]
    | cons y l =>
      simp only [refN, Bool.and_eq_true, ih]
      constructor
      · rintro ⟨⟨a, b⟩, h⟩ i x hi hx
        cases i with
        | zero => simp at hx; subst hx; exact ⟨a, b⟩
        | succ i => exact h i x (by omega) (by simpa using hx)
      · intro h
        exact ⟨h 0 y (by omega) rfl, fun i x hi hx => h (i + 1) x (by omega) (by simpa using hx)⟩
end Go.Proofs.Ytdlpminekojahaa
