/-
  Layer 10, plain: kids and their tokens, own tokens, the last node that has a token.
-/
import Derived.Test.YtdlpminekojahaaPc
namespace Go.Proofs.Ytdlpminekojahaa

def nd0 : Nd := ⟨0, 0, 0, 0, 0⟩
/-- stretches of tokens, one behind the other from a place on -/
def Srt : Int → List (Int × Int) → Prop
  | _, [] => True
  | p, x :: r => p ≤ x.1 ∧ x.1 ≤ x.2 ∧ Srt x.2 r
/-- the stretches of nodes -/
def ivs (l : List Nd) (ks : List Nat) : List (Int × Int) := ks.map fun k => ((l.getD k nd0).lo, (l.getD k nd0).hi)
def hasT (t : Int) (x : Int × Int) : Bool := decide (x.1 ≤ t) && decide (t < x.2)
/-- what is left of stretches from a token on -/
def lft (t : Int) (r : List (Int × Int)) : List (Int × Int) := r.dropWhile fun x => decide (x.2 ≤ t)
def headT (t : Int) : List (Int × Int) → Bool
  | [] => false
  | x :: _ => decide (x.1 ≤ t)
theorem srt_mono {p q : Int} {r : List (Int × Int)} (h : Srt p r) (hq : q ≤ p) : Srt q r := by
  cases r with
  | nil => trivial
  | cons x r => exact ⟨by have := h.1; omega, h.2⟩
theorem srt_none {p t : Int} : ∀ {r : List (Int × Int)}, Srt p r → t < p → r.any (hasT t) = false := by
  intro r
  induction r generalizing p with
  | nil => intro _ _; rfl
  | cons x r ih =>
    intro h ht
    rw [List.any_cons, ih h.2.2 (by have := h.1; have := h.2.1; omega)]
    have := h.1
    simp [hasT]; omega
theorem any_lft {p t : Int} : ∀ {r : List (Int × Int)}, Srt p r → r.any (hasT t) = headT t (lft t r) := by
  intro r
  induction r generalizing p with
  | nil => intro _; rfl
  | cons x r ih =>
    intro h
    unfold lft
    by_cases hx : x.2 ≤ t
    · rw [List.dropWhile_cons_of_pos (by simpa using hx), List.any_cons, ih h.2.2]
      have : hasT t x = false := by simp [hasT]; omega
      rw [this, Bool.false_or]; rfl
    · rw [List.dropWhile_cons_of_neg (by simpa using hx), List.any_cons]
      show _ = decide (x.1 ≤ t)
      by_cases hy : x.1 ≤ t
      · have : hasT t x = true := by simp [hasT]; omega
        rw [this, decide_eq_true hy]; rfl
      · have : hasT t x = false := by simp [hasT]; omega
        rw [this, decide_eq_false hy, Bool.false_or]
        exact srt_none h.2.2 (by have := h.2.1; omega)
theorem lft_lft {s t : Int} (r : List (Int × Int)) (h : s ≤ t) : lft t (lft s r) = lft t r := by
  induction r with
  | nil => rfl
  | cons x r ih =>
    unfold lft at ih ⊢
    by_cases hx : x.2 ≤ s
    · rw [List.dropWhile_cons_of_pos (by simpa using hx), ih, List.dropWhile_cons_of_pos (by simp; omega)]
    · rw [List.dropWhile_cons_of_neg (by simpa using hx)]
/-- kids of a node stand in order within it, and none has the node's word -/
theorem chain_srt {l : List Nd} {w hi : Int} : ∀ (m : Nat) (lo : Int) (p e : Nat), Goes (kidsL l) p m e → chainB w hi lo m (l.drop p) = true →
    Srt lo (ivs l (kidsFrom (kidsL l) m p)) ∧ ∀ x ∈ ivs l (kidsFrom (kidsL l) m p), lo ≤ x.1 ∧ x.1 ≤ x.2 ∧ x.2 ≤ hi ∧ hasT w x = false := by
  intro m
  induction m with
  | zero => intro lo p e _ _; exact ⟨trivial, fun x h => by cases h⟩
  | succ m ih =>
    intro lo p e hg hc
    have hp : p < l.length := by
      obtain ⟨k, hk, _⟩ := goes_succ.1 hg
      have := (List.getElem?_eq_some_iff.1 hk).1
      rwa [kidsL_len] at this
    rw [show m + 1 = 1 + m by omega] at hg
    obtain ⟨a, g1, g2⟩ := goes_add.1 hg
    have he := goes_end g1
    rw [List.drop_eq_getElem_cons hp] at hc
    simp only [chainB, Bool.and_eq_true] at hc
    obtain ⟨k, hk, h0, q, hq, rfl⟩ := (goes_succ (n := 0)).1 g1
    rw [kidsL_at l p _ (List.getElem?_eq_getElem hp)] at hk
    injection hk with hk
    subst hk
    rw [Nat.zero_add] at hq
    rw [kidsL_drop, hq] at hc
    simp only [Option.getD_some, List.drop_drop] at hc
    have j := ih _ (p + 1 + q) e g2 hc.2
    have hk := hc.1
    unfold kinB at hk
    simp only [Bool.and_eq_true, decide_eq_true_eq, Bool.not_eq_true'] at hk
    have hd : l.getD p nd0 = l[p] := by simp [List.getD, List.getElem?_eq_getElem hp]
    simp only [kidsFrom, ivs, List.map_cons, he, hd]
    refine ⟨⟨hk.1.1.1, hk.1.1.2, j.1⟩, ?_⟩
    intro x hx
    rcases List.mem_cons.1 hx with rfl | hx
    · exact ⟨hk.1.1.1, hk.1.1.2, hk.1.2, hk.2⟩
    · have := j.2 x hx
      have h1 := hk.1.1.1
      have h2 := hk.1.1.2
      exact ⟨by omega, this.2⟩
/-- the tokens from lo to hi -/
def tokensN (lo hi : Int) : List Int := (List.range (hi - lo).toNat).map fun k => lo + (k : Nat)
/-- a node's own tokens -/
def ownN (l : List Nd) (i : Nat) : List Int :=
  (tokensN (l.getD i nd0).lo (l.getD i nd0).hi).filter fun t => !(ivs l (kidsN (kidsL l) i)).any (hasT t)
theorem mem_tokens {lo hi t : Int} : t ∈ tokensN lo hi ↔ lo ≤ t ∧ t < hi := by
  unfold tokensN
  rw [List.mem_map]
  constructor
  · rintro ⟨k, hk, rfl⟩
    have := List.mem_range.1 hk
    omega
  · intro h
    exact ⟨(t - lo).toNat, List.mem_range.2 (by omega), by omega⟩
theorem mem_own {l : List Nd} {i : Nat} {t : Int} : t ∈ ownN l i ↔ hasT t ((l.getD i nd0).lo, (l.getD i nd0).hi) = true ∧ (ivs l (kidsN (kidsL l) i)).any (hasT t) = false := by
  unfold ownN
  rw [List.mem_filter, mem_tokens]
  simp [hasT]
theorem tokens_nodup (lo hi : Int) : (tokensN lo hi).Nodup := by
  unfold tokensN List.Nodup
  rw [List.pairwise_map]
  exact List.Pairwise.imp (fun h => by omega) List.nodup_range
theorem own_nodup (l : List Nd) (i : Nat) : (ownN l i).Nodup := List.Pairwise.filter _ (tokens_nodup _ _)
theorem own_count (l : List Nd) (i : Nat) (t : Int) : (ownN l i).count t = if t ∈ ownN l i then 1 else 0 := by
  rw [(own_nodup l i).count]
/-- the last node ahead of f that has a token -/
def overFrom (l : List Nd) (t : Int) : Nat → Int
  | 0 => -1
  | j + 1 => if hasT t ((l.getD j nd0).lo, (l.getD j nd0).hi) then j else overFrom l t j
def overN (l : List Nd) (t : Int) : Int := overFrom l t l.length
theorem over_is {l : List Nd} {t : Int} {o : Nat} : ∀ n, o < n → hasT t ((l.getD o nd0).lo, (l.getD o nd0).hi) = true → (∀ i, i < n → hasT t ((l.getD i nd0).lo, (l.getD i nd0).hi) = true → i ≤ o) → overFrom l t n = o := by
  intro n
  induction n with
  | zero => intro h; omega
  | succ n ih =>
    intro h h1 h2
    unfold overFrom
    by_cases hn : o = n
    · subst hn; rw [if_pos h1]
    · rw [if_neg (fun h => by have := h2 n (by omega) h; omega)]
      exact ih (by omega) h1 (fun i hi => h2 i (by omega))
/-- the tree's conditions at a node, by places -/
theorem tree_at {n : Int} {l : List Nd} (h : treeB n l = true) {i : Nat} (hi : i < l.length) :
    selfB n (l.getD i nd0) = true ∧ chainB (l.getD i nd0).word (l.getD i nd0).hi (l.getD i nd0).lo (l.getD i nd0).kids.toNat (l.drop (i + 1)) = true := by
  unfold treeB at h
  rw [Bool.and_eq_true] at h
  have := (refN_at n _ _).1 h.2 i l[i] hi (List.getElem?_eq_getElem hi)
  have hd : l.getD i nd0 = l[i] := by simp [List.getD, List.getElem?_eq_getElem hi]
  rw [hd]; exact this
theorem tree_goes {n : Int} {l : List Nd} (h : treeB n l = true) {i : Nat} (hi : i < l.length) :
    Goes (kidsL l) (i + 1) (l.getD i nd0).kids.toNat (endN (kidsL l) i) ∧ i < endN (kidsL l) i ∧ endN (kidsL l) i ≤ l.length ∧ 0 ≤ (l.getD i nd0).kids := by
  have hw := well_goes.1 (tree_well h)
  rw [kidsL_len] at hw
  obtain ⟨g, a, b⟩ := end_goes hw (Nat.zero_le i) hi
  obtain ⟨k, hk, h0, g2⟩ := (goes_succ (n := 0)).1 g
  have hd : l.getD i nd0 = l[i] := by simp [List.getD, List.getElem?_eq_getElem hi]
  rw [kidsL_at l i _ (List.getElem?_eq_getElem hi)] at hk
  injection hk with hk
  rw [hd, hk]
  rw [Nat.zero_add] at g2
  exact ⟨g2, a, b, h0⟩
theorem tree_kids {l : List Nd} {i : Nat} (hi : i < l.length) : kidsN (kidsL l) i = kidsFrom (kidsL l) (l.getD i nd0).kids.toNat (i + 1) := by
  have hd : l.getD i nd0 = l[i] := by simp [List.getD, List.getElem?_eq_getElem hi]
  unfold kidsN
  rw [hd]
  congr 2
  rw [List.getD, kidsL_at l i _ (List.getElem?_eq_getElem hi)]; rfl
/-- kids in order, of a node of a tree -/
theorem tree_srt {n : Int} {l : List Nd} (h : treeB n l = true) {i : Nat} (hi : i < l.length) :
    Srt (l.getD i nd0).lo (ivs l (kidsN (kidsL l) i)) ∧ ∀ x ∈ ivs l (kidsN (kidsL l) i), (l.getD i nd0).lo ≤ x.1 ∧ x.1 ≤ x.2 ∧ x.2 ≤ (l.getD i nd0).hi := by
  rw [tree_kids hi]
  obtain ⟨a, b⟩ := chain_srt _ _ _ _ (tree_goes h hi).1 (tree_at h hi).2
  exact ⟨a, fun x hx => ⟨(b x hx).1, (b x hx).2.1, (b x hx).2.2.1⟩⟩
/-- trees in a row, of a node of a tree: a token is the own one of one node within, the last that has it; or none has it -/
theorem row_own {n : Int} {l : List Nd} (h : treeB n l = true) (t : Int) : ∀ (f m p e : Nat) (lo : Int), e ≤ p + f → Goes (kidsL l) p m e → Srt lo (ivs l (kidsFrom (kidsL l) m p)) → e ≤ l.length →
    ((ivs l (kidsFrom (kidsL l) m p)).any (hasT t) = true ∧ ∃ o, p ≤ o ∧ o < e ∧ t ∈ ownN l o ∧ (∀ i, p ≤ i → i < e → (hasT t ((l.getD i nd0).lo, (l.getD i nd0).hi) = true → i ≤ o) ∧ (t ∈ ownN l i → i = o))) ∨
    ((ivs l (kidsFrom (kidsL l) m p)).any (hasT t) = false ∧ ∀ i, p ≤ i → i < e → hasT t ((l.getD i nd0).lo, (l.getD i nd0).hi) = false) := by
  intro f
  induction f with
  | zero =>
    intro m p e lo he hg hs hl
    have := goes_le hg
    obtain rfl : m = 0 := by omega
    exact .inr ⟨rfl, fun i h1 h2 => by omega⟩
  | succ f ih =>
    intro m p e lo he hg hs hl
    cases m with
    | zero =>
      have := goes_fun hg (goes_zero _ _)
      exact .inr ⟨rfl, fun i h1 h2 => by omega⟩
    | succ m =>
      rw [show m + 1 = 1 + m by omega] at hg
      obtain ⟨a, g1, g2⟩ := goes_add.1 hg
      have ha := goes_end g1
      have la := goes_le g1
      have lb := goes_le g2
      have hp : p < l.length := by omega
      obtain ⟨g3, b1, b2, b3⟩ := tree_goes h hp
      rw [ha] at g3 b1 b2
      simp only [kidsFrom, ivs, List.map_cons, ha] at hs ⊢
      have hs1 := tree_srt h hp
      rw [tree_kids hp] at hs1
      have c1 := ih _ (p + 1) a _ (by omega) g3 hs1.1 b2
      have c2 := ih m a e _ (by omega) g2 hs.2.2 hl
      rw [List.any_cons]
      have hsp := hs.2.1
      by_cases hx : hasT t ((l.getD p nd0).lo, (l.getD p nd0).hi) = true
      · rw [hx, Bool.true_or]
        refine .inl ⟨rfl, ?_⟩
        have hxx := hx
        simp only [hasT, Bool.and_eq_true, decide_eq_true_eq] at hxx
        have hn2 := srt_none hs.2.2 hxx.2
        rcases c2 with ⟨d, _⟩ | ⟨_, d2⟩
        · rw [ivs] at d; rw [d] at hn2; cases hn2
        · rcases c1 with ⟨d1, o, o1, o2, o3, o4⟩ | ⟨d1, o4⟩
          · refine ⟨o, by omega, by omega, o3, fun i h1 h2 => ?_⟩
            by_cases hip : i = p
            · subst hip
              refine ⟨fun _ => by omega, fun hm => ?_⟩
              have := (mem_own.1 hm).2
              rw [tree_kids hp, d1] at this; cases this
            · by_cases hia : i < a
              · exact o4 i (by omega) hia
              · have := d2 i (by omega) h2
                exact ⟨fun e => by (rw [this] at e; cases e), fun hm => by (rw [(mem_own.1 hm).1] at this; cases this)⟩
          · refine ⟨p, Nat.le_refl _, by omega, mem_own.2 ⟨hx, by rw [tree_kids hp]; exact d1⟩, fun i h1 h2 => ?_⟩
            by_cases hip : i = p
            · exact ⟨fun _ => by omega, fun _ => hip⟩
            · have : hasT t ((l.getD i nd0).lo, (l.getD i nd0).hi) = false := by
                by_cases hia : i < a
                · exact o4 i (by omega) hia
                · exact d2 i (by omega) h2
              exact ⟨fun e => by (rw [this] at e; cases e), fun hm => by (rw [(mem_own.1 hm).1] at this; cases this)⟩
      · have hx' : hasT t ((l.getD p nd0).lo, (l.getD p nd0).hi) = false := by simpa using hx
        rw [hx', Bool.false_or]
        have n1 : ∀ i, p + 1 ≤ i → i < a → hasT t ((l.getD i nd0).lo, (l.getD i nd0).hi) = false := by
          rcases c1 with ⟨d1, _⟩ | ⟨_, d1⟩
          · exfalso
            obtain ⟨x, hm, ht⟩ := List.any_eq_true.1 d1
            have := hs1.2 x hm
            simp only [hasT, Bool.and_eq_true, decide_eq_true_eq] at ht
            simp only [hasT, Bool.and_eq_false_iff, decide_eq_false_iff_not] at hx'
            omega
          · exact d1
        rcases c2 with ⟨d, o, o1, o2, o3, o4⟩ | ⟨d, d2⟩
        · refine .inl ⟨d, o, by omega, o2, o3, fun i h1 h2 => ?_⟩
          by_cases hia : a ≤ i
          · exact o4 i hia h2
          · have : hasT t ((l.getD i nd0).lo, (l.getD i nd0).hi) = false := by
              by_cases hip : i = p
              · subst hip; exact hx'
              · exact n1 i (by omega) (by omega)
            exact ⟨fun e => by (rw [this] at e; cases e), fun hm => by (rw [(mem_own.1 hm).1] at this; cases this)⟩
        · refine .inr ⟨d, fun i h1 h2 => ?_⟩
          by_cases hia : a ≤ i
          · exact d2 i hia h2
          · by_cases hip : i = p
            · subst hip; exact hx'
            · exact n1 i (by omega) (by omega)
/-- each token of the root is the own token of just one node, the last one that has it -/
theorem tree_own {n : Int} {l : List Nd} (h : treeB n l = true) (t : Int) (h1 : (l.getD 0 nd0).lo ≤ t) (h2 : t < (l.getD 0 nd0).hi) :
    ∃ o, o < l.length ∧ overN l t = o ∧ t ∈ ownN l o ∧ ∀ i, i < l.length → t ∈ ownN l i → i = o := by
  have hw := well_goes.1 (tree_well h)
  rw [kidsL_len] at hw
  have hlen : 0 < l.length := by have := goes_le hw; omega
  have hx : hasT t ((l.getD 0 nd0).lo, (l.getD 0 nd0).hi) = true := by simp only [hasT, Bool.and_eq_true, decide_eq_true_eq]; exact ⟨h1, h2⟩
  have hs : Srt (l.getD 0 nd0).lo (ivs l (kidsFrom (kidsL l) 1 0)) := ⟨Int.le_refl _, by dsimp only; omega, trivial⟩
  rcases row_own h t l.length 1 0 l.length _ (by omega) hw hs (Nat.le_refl _) with ⟨_, o, o1, o2, o3, o4⟩ | ⟨d, _⟩
  · exact ⟨o, o2, over_is _ o2 (mem_own.1 o3).1 (fun i hi => (o4 i (Nat.zero_le _) hi).1), o3, fun i hi => (o4 i (Nat.zero_le _) hi).2⟩
  · simp only [kidsFrom, ivs, List.map_cons, List.map_nil, List.any_cons, List.any_nil, Bool.or_false] at d
    rw [hx] at d; cases d
end Go.Proofs.Ytdlpminekojahaa
