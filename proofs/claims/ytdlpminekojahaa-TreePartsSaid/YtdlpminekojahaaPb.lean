/-
  Layer 10, plain: a list of nodes as a tree of tokens: as the stack goes through it, and as the document asks of each node.
-/
import Derived.Test.YtdlpminekojahaaPa
namespace Go.Proofs.Ytdlpminekojahaa

/-- a node -/
structure Nd where
  kind : Nat
  kids : Int
  word : Int
  lo : Int
  hi : Int
def kidsL (l : List Nd) : List Int := l.map (·.kids)
theorem kidsL_len (l : List Nd) : (kidsL l).length = l.length := by simp [kidsL]
theorem kidsL_drop (l : List Nd) (p : Nat) : kidsL (l.drop p) = (kidsL l).drop p := by simp [kidsL, List.map_drop]
theorem kidsL_at (l : List Nd) (i : Nat) (x : Nd) (h : l[i]? = some x) : (kidsL l)[i]? = some x.kids := by simp [kidsL, h]
/-- a node that is gone through: its own token, its end, where the next kid may begin, how many are left -/
structure Rw where
  w : Int
  hi : Int
  lo : Int
  left : Nat
def fitsB (r : Rw) (x : Nd) : Bool :=
  decide (x.kind ≤ 68) && decide (0 ≤ x.kids) && (decide (r.lo ≤ x.lo) && decide (x.lo ≤ x.hi) && decide (x.hi ≤ r.hi)) && (decide (x.word = -1) || (decide (x.lo ≤ x.word) && decide (x.word < x.hi))) && (decide (r.w < x.lo) || decide (x.hi ≤ r.w))
def norm : List Rw → List Rw
  | [] => []
  | r :: st => if r.left = 0 then norm st else r :: st
def rowOf (x : Nd) : Rw := ⟨x.word, x.hi, x.lo, x.kids.toNat⟩
def pushR (x : Nd) : List Rw → List Rw
  | [] => [rowOf x]
  | r :: st => rowOf x :: ⟨r.w, r.hi, x.hi, r.left - 1⟩ :: st
/-- the stack's way through a list -/
def chk : List Nd → List Rw → Bool
  | [], st => st.isEmpty
  | _ :: _, [] => false
  | x :: l, r :: st => fitsB r x && decide (x.kids ≤ l.length) && chk l (norm (pushR x (r :: st)))
/-- the same, till the stack is empty -/
def run : List Nd → List Rw → Option (List Nd)
  | l, [] => some l
  | [], _ :: _ => none
  | x :: l, r :: st => if fitsB r x then run l (norm (pushR x (r :: st))) else none
theorem run_empty (l : List Nd) : run l [] = some l := by cases l <;> rfl
theorem norm_app (st st' : List Rw) : norm (st ++ st') = if norm st = [] then norm st' else norm st ++ st' := by
  induction st with
  | nil => rfl
  | cons r st ih =>
    by_cases h : r.left = 0
    · simp only [List.cons_append, norm, if_pos h]; exact ih
    · simp only [List.cons_append, norm, if_neg h]; simp
theorem norm_head (st st' : List Rw) (r : Rw) (h : norm st = r :: st') : r.left ≠ 0 := by
  induction st with
  | nil => cases h
  | cons s st ih =>
    unfold norm at h
    split at h
    · exact ih h
    · injection h with h; subst h; assumption
theorem norm_norm (st : List Rw) : norm (norm st) = norm st := by
  cases h : norm st with
  | nil => rfl
  | cons r s => have := norm_head _ _ _ h; unfold norm; rw [if_neg this]
theorem run_app : ∀ (l : List Nd) (st st' : List Rw), run l (norm (st ++ st')) = (run l (norm st)).bind fun q => run q (norm st') := by
  intro l
  induction l with
  | nil =>
    intro st st'
    rw [norm_app]
    cases h : norm st with
    | nil => simp [run_empty]
    | cons r s => simp [run]
  | cons x l ih =>
    intro st st'
    rw [norm_app]
    cases h : norm st with
    | nil => simp [run_empty]
    | cons r s =>
      rw [if_neg (by simp)]
      simp only [List.cons_append, run]
      by_cases hf : fitsB r x = true
      · rw [if_pos hf, if_pos hf]
        exact ih (rowOf x :: ⟨r.w, r.hi, x.hi, r.left - 1⟩ :: s) st'
      · rw [if_neg hf, if_neg hf]; rfl
/-- kids, one behind the other, fit -/
def kidsOk (w hi : Int) : Int → Nat → List Nd → Bool
  | _, 0, _ => true
  | _, _ + 1, [] => false
  | lo, m + 1, x :: l => fitsB ⟨w, hi, lo, 0⟩ x && kidsOk w hi x.hi m (l.drop ((skipN (kidsL l) x.kids.toNat).getD 0))
/-- so of each of the first nodes -/
def eachOk : Nat → List Nd → Bool
  | 0, _ => true
  | _ + 1, [] => true
  | p + 1, x :: l => kidsOk x.word x.hi x.lo x.kids.toNat l && eachOk p l
theorem each_add : ∀ (a b : Nat) (l : List Nd), eachOk (a + b) l = (eachOk a l && eachOk b (l.drop a)) := by
  intro a
  induction a with
  | zero => intro b l; simp [eachOk]
  | succ a ih =>
    intro b l
    cases l with
    | nil => cases b <;> simp [eachOk]
    | cons x l => rw [show a + 1 + b = (a + b) + 1 by omega]; simp only [eachOk, List.drop_succ_cons]; rw [ih, Bool.and_assoc]
theorem fits_left (w hi lo : Int) (m n : Nat) (x : Nd) : fitsB ⟨w, hi, lo, m⟩ x = fitsB ⟨w, hi, lo, n⟩ x := rfl
theorem fits_kids {r : Rw} {x : Nd} (h : fitsB r x = true) : 0 ≤ x.kids := by
  unfold fitsB at h
  simp only [Bool.and_eq_true, decide_eq_true_eq] at h
  omega
theorem run_iff : ∀ (f : Nat) (l : List Nd) (m : Nat) (w hi lo : Int) (q : List Nd), l.length ≤ f →
    (run l (norm [⟨w, hi, lo, m⟩]) = some q ↔ ∃ p, skipN (kidsL l) m = some p ∧ q = l.drop p ∧ kidsOk w hi lo m l = true ∧ eachOk p l = true) := by
  intro f
  induction f with
  | zero =>
    intro l m w hi lo q hl
    obtain rfl : l = [] := List.length_eq_zero_iff.1 (by omega)
    cases m with
    | zero => simp [norm, run, skip_zero, kidsOk, eachOk, kidsL]
    | succ m => simp [norm, run, skip_nil, kidsL]
  | succ f ih =>
    intro l m w hi lo q hl
    cases m with
    | zero =>
      simp only [norm, if_pos, run_empty, skip_zero, kidsOk]
      constructor
      · intro h; injection h with h; exact ⟨0, rfl, by simp [h], trivial, rfl⟩
      · rintro ⟨p, hp, rfl, _, _⟩; injection hp with hp; subst hp; simp
    | succ m =>
      cases l with
      | nil => simp [norm, run, skip_nil, kidsL]
      | cons x t =>
        rw [show norm [⟨w, hi, lo, m + 1⟩] = [⟨w, hi, lo, m + 1⟩] from rfl]
        simp only [run, kidsOk, kidsL, List.map_cons]
        rw [show fitsB ⟨w, hi, lo, m + 1⟩ x = fitsB ⟨w, hi, lo, 0⟩ x from rfl]
        by_cases hf : fitsB ⟨w, hi, lo, 0⟩ x = true
        · rw [if_pos hf, hf]
          have hk := fits_kids hf
          rw [skip_cons, if_neg (by omega)]
          have h1 := run_app t [rowOf x] [⟨w, hi, x.hi, m⟩]
          rw [show pushR x [⟨w, hi, lo, m + 1⟩] = [rowOf x] ++ [⟨w, hi, x.hi, m⟩] from rfl, h1]
          have hlen : t.length ≤ f := by simp at hl; omega
          have i1 := fun q => ih t x.kids.toNat x.word x.hi x.lo q hlen
          rw [show m + x.kids.toNat = x.kids.toNat + m by omega, skip_add]
          rw [show List.map (fun x => x.kids) t = kidsL t from rfl]
          constructor
          · intro h
            obtain ⟨q1, e1, e2⟩ := Option.bind_eq_some_iff.1 h
            obtain ⟨p1, s1, rfl, k1, o1⟩ := (i1 q1).1 e1
            obtain ⟨p2, s2, rfl, k2, o2⟩ := (ih (t.drop p1) m w hi x.hi q (by simp; omega)).1 e2
            rw [kidsL_drop] at s2
            refine ⟨p1 + p2 + 1, ?_, by simp [List.drop_drop], ?_, ?_⟩
            · rw [s1]; simp only [Option.bind_some]; rw [s2]; rfl
            · rw [s1]; simp only [Bool.true_and, Option.getD_some]; exact k2
            · simp only [eachOk]; rw [k1, each_add, o1, o2]; rfl
          · rintro ⟨p, hp, rfl, hk2, ho⟩
            obtain ⟨p', hp', rfl⟩ := Option.map_eq_some_iff.1 hp
            obtain ⟨p1, s1, hp''⟩ := Option.bind_eq_some_iff.1 hp'
            obtain ⟨p2, s2, rfl⟩ := Option.map_eq_some_iff.1 hp''
            rw [s1] at hk2
            simp only [Bool.true_and, Option.getD_some] at hk2
            simp only [eachOk, Bool.and_eq_true] at ho
            rw [each_add, Bool.and_eq_true] at ho
            refine Option.bind_eq_some_iff.2 ⟨t.drop p1, (i1 _).2 ⟨p1, s1, rfl, ho.1, ho.2.1⟩, ?_⟩
            refine (ih (t.drop p1) m w hi x.hi _ (by simp; omega)).2 ⟨p2, by rw [kidsL_drop]; exact s2, by simp [List.drop_drop], hk2, ho.2.2⟩
        · rw [if_neg hf]
          constructor
          · intro h; cases h
          · rintro ⟨p, _, _, h, _⟩
            simp only [Bool.and_eq_true] at h
            exact absurd h.1 hf
/-- more kids than nodes behind: the stack is never empty at the end -/
theorem run_room {l : List Nd} {x : Nd} {r : Rw} {st : List Rw} {z : List Nd} (h : run l (norm (pushR x (r :: st))) = some z) : x.kids ≤ l.length := by
  rw [show pushR x (r :: st) = [rowOf x] ++ (⟨r.w, r.hi, x.hi, r.left - 1⟩ :: st) from rfl, run_app] at h
  obtain ⟨q1, e1, _⟩ := Option.bind_eq_some_iff.1 h
  obtain ⟨p, s, _⟩ := (run_iff l.length l x.kids.toNat x.word x.hi x.lo q1 (Nat.le_refl _)).1 e1
  have := skip_le _ _ _ s
  rw [kidsL_len] at this
  omega
theorem chk_run : ∀ (l : List Nd) (st : List Rw), (chk l st = true ↔ run l st = some []) := by
  intro l
  induction l with
  | nil => intro st; cases st <;> simp [chk, run]
  | cons x l ih =>
    intro st
    cases st with
    | nil => simp [chk, run]
    | cons r st =>
      simp only [chk, run]
      by_cases hf : fitsB r x = true
      · rw [if_pos hf, hf, Bool.true_and, Bool.and_eq_true, ih]
        constructor
        · intro h; exact h.2
        · intro h; exact ⟨decide_eq_true (run_room h), h⟩
      · rw [if_neg hf]; simp [hf]
end Go.Proofs.Ytdlpminekojahaa
