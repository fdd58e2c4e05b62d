/-
  Texts Math Mathb Mathc of an earlier seat, under this one's numbers.
-/
import Derived.Test.YtoffjpgobhcipaaDoorNd
set_option maxRecDepth 100000
/-
  Layer 5: the program's one walk agrees with the document's cuts, plain.
-/
namespace Go.Proofs.YtoffjpgobhcipaaDoor.Num

/-- what is left of a text behind a row that goes on as far as it can -/
def goes (base : Nat) : List UInt8 → List UInt8
  | [] => []
  | c :: t => if dig base c || (decide (c = 95) && digAt base t 0) then goes base t else c :: t
def skip (base : Nat) (l : List UInt8) : List UInt8 := if digAt base l 0 then goes base l else l
theorem digAt_drop (base : Nat) (l : List UInt8) (k : Nat) : digAt base l k = digAt base (l.drop k) 0 := by
  unfold digAt; rw [List.getElem?_drop, Nat.add_zero]
theorem hits_drop (sm l : List UInt8) (k : Nat) : hits sm l k = hits sm (l.drop k) 0 := by
  unfold hits; rw [List.getElem?_drop, Nat.add_zero]
theorem goes_len (base : Nat) : ∀ l : List UInt8, (goes base l).length ≤ l.length
  | [] => Nat.le_refl _
  | c :: t => by
    unfold goes
    split
    · have := goes_len base t; simp; omega
    · exact Nat.le_refl _
theorem runIdx_goes (base : Nat) (l : List UInt8) : ∀ n k, n + k = l.length → runIdx (stepOn base l) n k = l.length - (goes base (l.drop k)).length
  | 0, k, h => by
    rw [List.drop_eq_nil_of_le (by omega)]
    simp [runIdx, goes]; omega
  | n + 1, k, h => by
    have hk : k < l.length := by omega
    have hd := List.drop_eq_getElem_cons hk
    have hs : stepOn base l k = (dig base l[k] || (decide (l[k] = 95) && digAt base (l.drop (k + 1)) 0)) := by
      unfold stepOn
      rw [← digAt_drop]
      unfold digAt
      rw [List.getElem?_eq_getElem hk]
      simp
    unfold runIdx
    rw [hs, hd]
    unfold goes
    split
    · exact runIdx_goes base l n (k + 1) (by omega)
    · simp; omega
theorem drop_rowEnd (base : Nat) (l : List UInt8) (k : Nat) : l.drop (rowEnd base l k) = skip base (l.drop k) := by
  unfold rowEnd skip
  rw [← digAt_drop]
  split
  · rename_i h
    have hk : k < l.length := by
      by_cases h2 : k < l.length
      · exact h2
      · unfold digAt at h
        rw [List.getElem?_eq_none (by omega)] at h; cases h
    rw [runIdx_goes base l _ _ (by omega)]
    have key : ∀ m : List UInt8, m.drop (m.length - (goes base m).length) = goes base m := by
      intro m
      induction m with
      | nil => rfl
      | cons c t ih =>
        unfold goes
        split
        · have h1 := goes_len base t
          rw [List.length_cons, show t.length + 1 - (goes base t).length = (t.length - (goes base t).length) + 1 by omega, List.drop_succ_cons]
          exact ih
        · simp
    have h3 := key (l.drop k)
    have h4 := goes_len base (l.drop k)
    rw [List.drop_drop, List.length_drop] at h3
    rw [List.length_drop] at h4
    rw [show l.length - (goes base (l.drop k)).length = k + (l.length - k - (goes base (l.drop k)).length) by omega]
    exact h3
  · rfl
theorem rowEnd_le (base : Nat) (l : List UInt8) (k : Nat) (h : k ≤ l.length) : rowEnd base l k ≤ l.length := by
  unfold rowEnd
  split
  · rw [runIdx_goes base l _ _ (by omega)]; omega
  · exact h
theorem row_goes {base : Nat} (hb : base ≤ 16) : ∀ l : List UInt8, row base l = (digAt base l 0 && (goes base l).isEmpty)
  | [] => rfl
  | [c] => by
    show dig base c = (dig base c && (goes base [c]).isEmpty)
    unfold goes
    cases h : dig base c <;> simp [goes]
  | c :: d :: t => by
    have i1 := row_goes hb t
    have i2 := row_goes hb (d :: t)
    show (dig base c && (if d = 95 then row base t else row base (d :: t))) = (dig base c && (goes base (c :: d :: t)).isEmpty)
    cases hc : dig base c with
    | false => rfl
    | true =>
      rw [Bool.true_and, Bool.true_and]
      have e : goes base (c :: d :: t) = goes base (d :: t) := by
        conv => lhs; unfold goes
        rw [hc]; rfl
      rw [e]
      by_cases hd : d = 95
      · rw [if_pos hd, i1, hd]
        conv => rhs; unfold goes
        rw [dig_bar hb]
        cases h : digAt base t 0 <;> simp
      · rw [if_neg hd, i2]
        show (dig base d && _) = _
        cases h : dig base d with
        | true => rfl
        | false =>
          unfold goes
          rw [h]
          simp [hd]
theorem isRow_row {base : Nat} (hb : base ≤ 16) (l : List UInt8) : isRow? base l = row base l := by
  unfold isRow?
  rw [row_goes hb]
  cases h : digAt base l 0 with
  | false => rfl
  | true =>
    rw [Bool.true_and, Bool.true_and]
    have h1 := drop_rowEnd base l 0
    have h2 := rowEnd_le base l 0 (Nat.zero_le _)
    rw [List.drop_zero] at h1
    have h3 : skip base l = goes base l := by unfold skip; rw [h]; rfl
    rw [h3] at h1
    rw [← h1, Bool.eq_iff_iff]
    simp
    omega
theorem skip_row {base : Nat} (hb : base ≤ 16) (l : List UInt8) : (skip base l).isEmpty = (l.isEmpty || row base l) := by
  unfold skip
  rw [row_goes hb]
  cases h : digAt base l 0 with
  | true =>
    cases l with
    | nil => cases h
    | cons c t => simp
  | false => simp
theorem goes_app {base : Nat} {x : UInt8} (b : List UInt8) (h1 : dig base x = false) (h2 : x ≠ 95) : ∀ a : List UInt8, goes base (a ++ x :: b) = goes base a ++ x :: b
  | [] => by simp [goes, h1, h2]
  | c :: t => by
    have ih := goes_app b h1 h2 t
    have e : digAt base (t ++ x :: b) 0 = digAt base t 0 := by
      cases t with
      | nil => exact h1
      | cons => rfl
    rw [List.cons_append]
    unfold goes
    rw [e]
    split
    · exact ih
    · rfl
theorem digAt_app {base : Nat} {x : UInt8} (b : List UInt8) (h1 : dig base x = false) (a : List UInt8) : digAt base (a ++ x :: b) 0 = digAt base a 0 := by
  cases a with
  | nil => exact h1
  | cons => rfl
theorem skip_app {base : Nat} {x : UInt8} (b : List UInt8) (h1 : dig base x = false) (h2 : x ≠ 95) (a : List UInt8) : skip base (a ++ x :: b) = skip base a ++ x :: b := by
  unfold skip
  rw [digAt_app b h1, goes_app b h1 h2]
  split <;> rfl
theorem goes_mem (base : Nat) : ∀ (l : List UInt8) (c : UInt8), c ∈ goes base l → c ∈ l
  | [], _, h => h
  | d :: t, c, h => by
    unfold goes at h
    split at h
    · exact List.mem_cons_of_mem _ (goes_mem base t c h)
    · exact h
theorem skip_mem (base : Nat) (l : List UInt8) (c : UInt8) (h : c ∈ skip base l) : c ∈ l := by
  unfold skip at h
  split at h
  · exact goes_mem base l c h
  · exact h

/-- what is left behind a sign or none -/
def unsign (l : List UInt8) : List UInt8 := if hits [43, 45] l 0 then l.drop 1 else l
theorem drop_signEnd (l : List UInt8) (k : Nat) : l.drop (signEnd l k) = unsign (l.drop k) := by
  unfold signEnd unsign
  rw [← hits_drop]
  split
  · rw [List.drop_drop]
  · rfl
theorem hits_lt {sm l : List UInt8} {k : Nat} (h : hits sm l k = true) : k < l.length := by
  unfold hits at h
  by_cases h2 : k < l.length
  · exact h2
  · rw [List.getElem?_eq_none (by omega)] at h; cases h
theorem signEnd_le (l : List UInt8) (k : Nat) (h : k ≤ l.length) : signEnd l k ≤ l.length := by
  unfold signEnd
  split
  · rename_i h2; have := hits_lt h2; omega
  · exact h
/-- the walk of decimal over what is left -/
def decL (l : List UInt8) : Nat :=
  let r1 := skip 10 l
  let dot := hits [46] r1 0
  let r3 := if dot then skip 10 (r1.drop 1) else r1
  let tail := dot && digAt 10 (r1.drop 1) 0
  let ex := hits [101, 69] r3 0
  let r5 := unsign (r3.drop 1)
  let r6 := if ex then skip 10 r5 else r3
  if ex && !digAt 10 r5 0 then 0
  else if (!digAt 10 l 0 && !tail) || !r6.isEmpty then 0
  else if dot || ex then 4
  else if decide (l = [48]) || !decide (l.head? = some 48) then 3
  else wholeP 8 (l.drop 1)
theorem lt_drop (l : List UInt8) (k : Nat) : decide (k < l.length) = !(l.drop k).isEmpty := by
  rw [Bool.eq_iff_iff]; simp
theorem decP_L (l : List UInt8) : decP l = decL l := by
  unfold decP decL
  have h1 : l.drop (rowEnd 10 l 0) = skip 10 l := by rw [drop_rowEnd, List.drop_zero]
  dsimp only
  obtain ⟨k1, hk1⟩ : ∃ k, k = rowEnd 10 l 0 := ⟨_, rfl⟩
  rw [← hk1] at h1 ⊢
  have e1 : hits [46] (skip 10 l) 0 = hits [46] l k1 := by rw [← h1, ← hits_drop]
  have e2 : digAt 10 ((skip 10 l).drop 1) 0 = digAt 10 l (k1 + 1) := by rw [← h1, List.drop_drop, ← digAt_drop]
  rw [e1, e2]
  obtain ⟨dot, hdot⟩ : ∃ v, v = hits [46] l k1 := ⟨_, rfl⟩
  rw [← hdot]
  have h3 : l.drop (if dot = true then rowEnd 10 l (k1 + 1) else k1) = if dot = true then skip 10 ((skip 10 l).drop 1) else skip 10 l := by
    split
    · rw [drop_rowEnd, ← h1, List.drop_drop]
    · exact h1
  obtain ⟨k3, hk3⟩ : ∃ k, k = (if dot = true then rowEnd 10 l (k1 + 1) else k1) := ⟨_, rfl⟩
  rw [← hk3] at h3 ⊢
  rw [← h3]
  have e3 : hits [101, 69] (l.drop k3) 0 = hits [101, 69] l k3 := (hits_drop _ _ _).symm
  have h5 : l.drop (signEnd l (k3 + 1)) = unsign ((l.drop k3).drop 1) := by rw [drop_signEnd, List.drop_drop]
  rw [e3, ← h5]
  have e5 : digAt 10 (l.drop (signEnd l (k3 + 1))) 0 = digAt 10 l (signEnd l (k3 + 1)) := (digAt_drop _ _ _).symm
  rw [e5, ← drop_rowEnd, lt_drop]
  cases hits [101, 69] l k3 <;> rfl
/-- the walk of sixteen over what is left -/
def hexL (l : List UInt8) : Nat :=
  let lead := hits [95] l 0
  let r0 := if lead then l.drop 1 else l
  let head := digAt 16 r0 0
  let r2 := skip 16 r0
  let dot := hits [46] r2 0
  let r4 := if dot then skip 16 (r2.drop 1) else r2
  let tail := dot && digAt 16 (r2.drop 1) 0
  let ex := hits [112, 80] r4 0
  let r5 := unsign (r4.drop 1)
  let r6 := skip 10 r5
  if !head && (lead || !tail) then 0
  else if r4.isEmpty && !dot then 3
  else if !ex then 0
  else if !digAt 10 r5 0 || !r6.isEmpty then 0
  else 4
theorem hexP_L (l : List UInt8) : hexP l = hexL l := by
  unfold hexP hexL
  dsimp only
  obtain ⟨lead, hlead⟩ : ∃ v, v = hits [95] l 0 := ⟨_, rfl⟩
  rw [← hlead]
  have hle : lead = true → 0 < l.length := fun h => hits_lt (hlead.symm.trans h)
  have h0 : l.drop (if lead = true then 0 + 1 else 0) = if lead = true then l.drop 1 else l := by split <;> rfl
  obtain ⟨k1, hk1⟩ : ∃ k, k = (if lead = true then 0 + 1 else 0) := ⟨_, rfl⟩
  have hk1l : k1 ≤ l.length := by
    rw [hk1]; split
    · rename_i h; exact hle h
    · exact Nat.zero_le _
  rw [← hk1] at h0 ⊢
  rw [← h0]
  have h1 : l.drop (rowEnd 16 l k1) = skip 16 (l.drop k1) := drop_rowEnd 16 l k1
  have hk2l := rowEnd_le 16 l k1 hk1l
  obtain ⟨k2, hk2⟩ : ∃ k, k = rowEnd 16 l k1 := ⟨_, rfl⟩
  rw [← hk2] at h1 hk2l ⊢
  rw [← h1]
  have e1 : hits [46] (l.drop k2) 0 = hits [46] l k2 := (hits_drop _ _ _).symm
  have e2 : digAt 16 ((l.drop k2).drop 1) 0 = digAt 16 l (k2 + 1) := by rw [List.drop_drop, ← digAt_drop]
  have e0 : digAt 16 (l.drop k1) 0 = digAt 16 l k1 := (digAt_drop _ _ _).symm
  rw [e0, e1, e2]
  obtain ⟨dot, hdot⟩ : ∃ v, v = hits [46] l k2 := ⟨_, rfl⟩
  rw [← hdot]
  have h4 : l.drop (if dot = true then rowEnd 16 l (k2 + 1) else k2) = if dot = true then skip 16 ((l.drop k2).drop 1) else l.drop k2 := by
    split
    · rw [drop_rowEnd, List.drop_drop]
    · rfl
  have hk4l : (if dot = true then rowEnd 16 l (k2 + 1) else k2) ≤ l.length := by
    split
    · rename_i h
      have := hits_lt (hdot.symm.trans h)
      exact rowEnd_le 16 l _ (by omega)
    · exact hk2l
  obtain ⟨k4, hk4⟩ : ∃ k, k = (if dot = true then rowEnd 16 l (k2 + 1) else k2) := ⟨_, rfl⟩
  rw [← hk4] at h4 hk4l ⊢
  rw [← h4]
  have e4 : hits [112, 80] (l.drop k4) 0 = hits [112, 80] l k4 := (hits_drop _ _ _).symm
  have e5 : (l.drop k4).isEmpty = decide (k4 = l.length) := by rw [Bool.eq_iff_iff]; simp; omega
  have h5 : l.drop (signEnd l (k4 + 1)) = unsign ((l.drop k4).drop 1) := by rw [drop_signEnd, List.drop_drop]
  rw [e4, e5, ← h5]
  have e6 : digAt 10 (l.drop (signEnd l (k4 + 1))) 0 = digAt 10 l (signEnd l (k4 + 1)) := (digAt_drop _ _ _).symm
  rw [e6, ← drop_rowEnd, lt_drop]

/-! a number ahead of its power -/
def mDot (base : Nat) (u : List UInt8) : Bool := hits [46] (skip base u) 0
def mR (base : Nat) (u : List UInt8) : List UInt8 := if mDot base u then skip base ((skip base u).drop 1) else skip base u
def mTail (base : Nat) (u : List UInt8) : Bool := mDot base u && digAt base ((skip base u).drop 1) 0
theorem hits_app {sm : List UInt8} {x : UInt8} (z a : List UInt8) (h : sm.contains x = false) : hits sm (a ++ x :: z) 0 = hits sm a 0 := by
  cases a with
  | nil => exact h
  | cons => rfl
theorem hits_cons (sm : List UInt8) (c : UInt8) (t : List UInt8) : hits sm (c :: t) 0 = sm.contains c := rfl
theorem mDot_app {base : Nat} {x : UInt8} (z u : List UInt8) (h1 : dig base x = false) (h2 : x ≠ 95) (h3 : x ≠ 46) : mDot base (u ++ x :: z) = mDot base u := by
  unfold mDot
  rw [skip_app z h1 h2, hits_app]
  simpa using h3
theorem mDot_cons {base : Nat} {u : List UInt8} (h : mDot base u = true) : ∃ b, skip base u = 46 :: b := by
  unfold mDot hits at h
  cases hs : skip base u with
  | nil => rw [hs] at h; cases h
  | cons c b =>
    rw [hs] at h
    have : c = 46 := by simpa using h
    exact ⟨b, by rw [this]⟩
theorem mR_app {base : Nat} {x : UInt8} (z u : List UInt8) (h1 : dig base x = false) (h2 : x ≠ 95) (h3 : x ≠ 46) : mR base (u ++ x :: z) = mR base u ++ x :: z := by
  unfold mR
  rw [mDot_app z u h1 h2 h3, skip_app z h1 h2]
  cases h : mDot base u with
  | true =>
    obtain ⟨b, hb⟩ := mDot_cons h
    rw [hb]
    exact skip_app z h1 h2 b
  | false => rfl
theorem mTail_app {base : Nat} {x : UInt8} (z u : List UInt8) (h1 : dig base x = false) (h2 : x ≠ 95) (h3 : x ≠ 46) : mTail base (u ++ x :: z) = mTail base u := by
  unfold mTail
  rw [mDot_app z u h1 h2 h3, skip_app z h1 h2]
  cases h : mDot base u with
  | true =>
    obtain ⟨b, hb⟩ := mDot_cons h
    rw [hb]
    exact digAt_app z h1 b
  | false => rfl
theorem mR_mem (base : Nat) (u : List UInt8) (c : UInt8) (h : c ∈ mR base u) : c ∈ u := by
  unfold mR at h
  split at h
  · exact skip_mem base u c (List.mem_of_mem_drop (skip_mem base _ c h))
  · exact skip_mem base u c h
theorem row_chars {base : Nat} : ∀ l : List UInt8, row base l = true → ∀ c ∈ l, dig base c = true ∨ c = 95
  | [], h, _, _ => by cases h
  | [c], h, x, hx => by simp at hx; subst hx; exact .inl h
  | c :: d :: t, h, x, hx => by
    have h' : (dig base c && (if d = 95 then row base t else row base (d :: t))) = true := h
    rw [Bool.and_eq_true] at h'
    rcases List.mem_cons.1 hx with rfl | hx
    · exact .inl h'.1
    · by_cases hd : d = 95
      · rw [if_pos hd] at h'
        rcases List.mem_cons.1 hx with rfl | hx
        · exact .inr hd
        · exact row_chars t h'.2 x hx
      · rw [if_neg hd] at h'
        exact row_chars (d :: t) h'.2 x hx
theorem row_digAt {base : Nat} (hb : base ≤ 16) {l : List UInt8} (h : row base l = true) : digAt base l 0 = true := by
  rw [row_goes hb, Bool.and_eq_true] at h; exact h.1
theorem dig_dot {base : Nat} (h : base ≤ 16) : dig base 46 = false := by
  unfold dig; rw [decide_eq_false_iff_not]; have : val 46 = 99 := by decide
  omega
/-- the first point of a text -/
theorem point_split (u : List UInt8) : (u.dropWhile (fun c => decide (c ≠ 46)) = [] ∧ ∀ c ∈ u, c ≠ 46) ∨
    ∃ a b, u = a ++ 46 :: b ∧ u.takeWhile (fun c => decide (c ≠ 46)) = a ∧ u.dropWhile (fun c => decide (c ≠ 46)) = 46 :: b ∧ ∀ c ∈ a, c ≠ 46 := by
  induction u with
  | nil => exact .inl ⟨rfl, fun c h => by cases h⟩
  | cons c t ih =>
    by_cases hc : c = 46
    · subst hc
      exact .inr ⟨[], t, rfl, by simp, by simp, fun c h => by cases h⟩
    · have hp : decide (c ≠ 46) = true := decide_eq_true hc
      rcases ih with ⟨h1, h2⟩ | ⟨a, b, h1, h2, h3, h4⟩
      · refine .inl ⟨by rw [List.dropWhile_cons_of_pos (by simpa using hc)]; exact h1, fun x hx => ?_⟩
        rcases List.mem_cons.1 hx with rfl | hx
        · exact hc
        · exact h2 x hx
      · refine .inr ⟨c :: a, b, by rw [h1]; rfl, by rw [List.takeWhile_cons_of_pos (by simpa using hc), h2], by rw [List.dropWhile_cons_of_pos (by simpa using hc)]; exact h3, fun x hx => ?_⟩
        rcases List.mem_cons.1 hx with rfl | hx
        · exact hc
        · exact h4 x hx
/-- what points asks, the tail alone only where it may stand -/
def pointsT (base : Nat) (τ : Bool) (u : List UInt8) : Bool :=
  match u.dropWhile (fun c => decide (c ≠ 46)) with
  | [] => false
  | _ :: b => (row base (u.takeWhile fun c => decide (c ≠ 46)) && (b.isEmpty || row base b)) || (τ && (u.takeWhile fun c => decide (c ≠ 46)).isEmpty && row base b)
theorem no_dot {base : Nat} {u : List UInt8} (h : ∀ c ∈ skip base u, c ≠ 46) : mDot base u = false := by
  unfold mDot hits
  cases hs : skip base u with
  | nil => rfl
  | cons c t =>
    have := h c (by rw [hs]; exact List.mem_cons_self ..)
    simpa using this
theorem mant_both {base : Nat} (hb : base ≤ 16) (τ : Bool) (u : List UInt8) :
    ((mR base u).isEmpty && (digAt base u 0 || (τ && mTail base u)) && mDot base u) = pointsT base τ u ∧
    ((mR base u).isEmpty && (digAt base u 0 || (τ && mTail base u)) && !mDot base u) = row base u := by
  rcases point_split u with ⟨h1, h2⟩ | ⟨a, b, h1, h2, h3, h4⟩
  · have hd : mDot base u = false := no_dot fun c hc => h2 c (skip_mem base u c hc)
    have hp : pointsT base τ u = false := by unfold pointsT; rw [h1]
    have hr : mR base u = skip base u := by unfold mR; rw [hd]; rfl
    have ht : mTail base u = false := by unfold mTail; rw [hd]; rfl
    rw [hp, hd, ht, hr]
    refine ⟨by simp, ?_⟩
    rw [Bool.and_false, Bool.or_false, Bool.not_false, Bool.and_true, row_goes hb]
    unfold skip
    cases h : digAt base u 0 <;> simp
  · have hda := dig_dot hb
    have hsk : skip base u = skip base a ++ 46 :: b := by rw [h1]; exact skip_app b hda (by decide) a
    have hdg : digAt base u 0 = digAt base a 0 := by rw [h1]; exact digAt_app b hda a
    have hrow : row base u = false := by
      cases h : row base u with
      | false => rfl
      | true =>
        rcases row_chars u h 46 (by rw [h1]; simp) with h | h
        · rw [hda] at h; cases h
        · exact absurd h (by decide)
    have hpt : pointsT base τ u = ((row base a && (b.isEmpty || row base b)) || (τ && a.isEmpty && row base b)) := by unfold pointsT; rw [h3, h2]
    have hra := skip_row hb a
    rw [hpt, hrow]
    cases hs : skip base a with
    | nil =>
      rw [hs, List.nil_append] at hsk
      have hd : mDot base u = true := by unfold mDot; rw [hsk]; rfl
      have hr : mR base u = skip base b := by unfold mR; rw [hd, hsk]; rfl
      have ht : mTail base u = digAt base b 0 := by unfold mTail; rw [hd, hsk]; rfl
      rw [hd, hr, ht, hdg, skip_row hb]
      refine ⟨?_, by simp⟩
      rw [hs] at hra
      have hra' : (a.isEmpty || row base a) = true := hra.symm
      rw [Bool.and_true]
      cases ha : row base a with
      | true =>
        rw [row_digAt hb ha]
        have : a.isEmpty = false := by cases a with | nil => cases ha | cons => rfl
        rw [this]; simp
      | false =>
        rw [ha, Bool.or_false] at hra'
        have han : a = [] := by simpa using hra'
        subst han
        have e0 : digAt base ([] : List UInt8) 0 = false := rfl
        rw [e0]
        cases hbr : row base b with
        | true => rw [row_digAt hb hbr]; cases τ <;> simp
        | false =>
          cases b with
          | nil => cases τ <;> rfl
          | cons c t => cases τ <;> simp
    | cons c t =>
      have hc : c ≠ 46 := h4 c (skip_mem base a c (by rw [hs]; exact List.mem_cons_self ..))
      have hd : mDot base u = false := by
        unfold mDot; rw [hsk, hs]
        show ([46] : List UInt8).contains c = false
        simpa using hc
      have hr : (mR base u).isEmpty = false := by
        have : mR base u = skip base u := by unfold mR; rw [hd]; rfl
        rw [this, hsk, hs]; rfl
      have hra2 : (a.isEmpty || row base a) = false := by rw [← hra, hs]; rfl
      rw [Bool.or_eq_false_iff] at hra2
      rw [hr, hra2.1, hra2.2]
      simp

theorem points_T (base : Nat) (u : List UInt8) : points base false u = pointsT base true u := by
  unfold points pointsT
  generalize List.dropWhile (fun c => decide (c ≠ 46)) u = d
  generalize List.takeWhile (fun c => decide (c ≠ 46)) u = a
  cases d with
  | nil => rfl
  | cons c b => simp
/-- the number ahead of a power, read by the program, without and with a _ that leads -/
def mOk (base : Nat) (u : List UInt8) : Bool := (mR base u).isEmpty && (digAt base u 0 || mTail base u)
theorem mOk_dot {base : Nat} (hb : base ≤ 16) (u : List UInt8) : (mOk base u && mDot base u) = points base false u := by
  have h := (mant_both hb true u).1
  rw [points_T, ← h]; rfl
theorem mOk_row {base : Nat} (hb : base ≤ 16) (u : List UInt8) : (mOk base u && !mDot base u) = row base u := by
  have h := (mant_both hb true u).2
  rw [← h]; rfl
theorem mOk_or {base : Nat} (hb : base ≤ 16) (u : List UInt8) : mOk base u = (points base false u || row base u) := by
  rw [← mOk_dot hb, ← mOk_row hb]
  cases mOk base u <;> cases mDot base u <;> rfl
def led (u : List UInt8) : Bool := hits [95] u 0
def unled (u : List UInt8) : List UInt8 := if led u then u.drop 1 else u
def hOk (u : List UInt8) : Bool := (mR 16 (unled u)).isEmpty && (digAt 16 (unled u) 0 || (!led u && mTail 16 (unled u)))
theorem led_cases (u : List UInt8) : (led u = true ∧ ∃ t, u = 95 :: t ∧ unled u = t) ∨ (led u = false ∧ unled u = u ∧ u.head? ≠ some 95) := by
  cases u with
  | nil => exact .inr ⟨rfl, rfl, by simp⟩
  | cons c t =>
    by_cases h : c = 95
    · subst h; exact .inl ⟨rfl, t, rfl, rfl⟩
    · have hl : led (c :: t) = false := by
        show ([95] : List UInt8).contains c = false
        simpa using h
      exact .inr ⟨hl, by unfold unled; rw [hl]; rfl, by simpa using h⟩
theorem under_plain {base : Nat} {l : List UInt8} (h : l.head? ≠ some 95) : under base l = row base l := by
  unfold under
  have : (l.head? == some 95) = false := by simpa using h
  rw [this]; simp
theorem row_bar {base : Nat} (hb : base ≤ 16) (t : List UInt8) : row base (95 :: t) = false := by
  cases t with
  | nil => exact dig_bar hb
  | cons c t => show (dig base 95 && _) = false; rw [dig_bar hb]; rfl
theorem under_bar {base : Nat} (hb : base ≤ 16) (t : List UInt8) : under base (95 :: t) = row base t := by
  unfold under
  rw [row_bar hb]; simp
theorem hOk_both (u : List UInt8) : (hOk u && mDot 16 (unled u)) = points 16 true u ∧ (hOk u && !mDot 16 (unled u)) = under 16 u := by
  rcases led_cases u with ⟨h1, t, h2, h3⟩ | ⟨h1, h2, h3⟩
  · have hm := mant_both (show 16 ≤ 16 by decide) false t
    have e : hOk u = ((mR 16 t).isEmpty && (digAt 16 t 0 || (false && mTail 16 t))) := by unfold hOk; rw [h1, h3]; rfl
    rw [e, h3, hm.1, hm.2, h2, under_bar (by decide)]
    refine ⟨?_, rfl⟩
    unfold pointsT points
    rw [List.dropWhile_cons_of_pos (by decide), List.takeWhile_cons_of_pos (by decide)]
    generalize List.dropWhile (fun c => decide (c ≠ 46)) t = d
    generalize List.takeWhile (fun c => decide (c ≠ 46)) t = a
    cases d with
    | nil => rfl
    | cons c b =>
      dsimp only
      rw [row_bar (by decide), under_bar (by decide)]
      simp
  · have e : hOk u = mOk 16 u := by unfold hOk mOk; rw [h1, h2]; rfl
    rw [e, h2, mOk_dot (by decide), mOk_row (by decide), under_plain h3]
    refine ⟨?_, rfl⟩
    unfold points
    rcases point_split u with ⟨e1, e2⟩ | ⟨a, b, e1, e2, e3, e4⟩
    · rw [e1]
    · rw [e3, e2]
      have ha : a.head? ≠ some 95 := by
        intro h
        cases a with
        | nil => cases h
        | cons c t => apply h3; rw [e1]; exact h
      dsimp only
      rw [under_plain ha]
      simp
theorem hOk_or (u : List UInt8) : hOk u = (points 16 true u || under 16 u) := by
  rw [← (hOk_both u).1, ← (hOk_both u).2]
  cases hOk u <;> cases mDot 16 (unled u) <;> rfl

/-! the power -/
theorem power_unsign {sm big x : UInt8} (z : List UInt8) (hx : x = sm ∨ x = big) : power sm big (x :: z) = row 10 (unsign z) := by
  cases z with
  | nil => rfl
  | cons d t =>
    have e : (decide (x = sm) || decide (x = big)) = true := by simpa using hx
    show ((decide (x = sm) || decide (x = big)) && _) = _
    rw [e, Bool.true_and]
    unfold unsign
    by_cases hd : d = 43 ∨ d = 45
    · rw [if_pos hd, if_pos (by rw [hits_cons]; simpa using hd)]; rfl
    · rw [if_neg hd, if_neg (by rw [hits_cons]; simpa using hd)]
theorem power_head {sm big c : UInt8} {t : List UInt8} (h : power sm big (c :: t) = true) : c = sm ∨ c = big := by
  cases t with
  | nil => cases h
  | cons d t =>
    have h' : ((decide (c = sm) || decide (c = big)) && (if d = 43 ∨ d = 45 then row 10 t else row 10 (d :: t))) = true := h
    rw [Bool.and_eq_true] at h'
    simpa using h'.1
theorem pow_split (sm big : UInt8) (l : List UInt8) : (∀ c ∈ l, c ≠ sm ∧ c ≠ big) ∨ ∃ u x z, l = u ++ x :: z ∧ (x = sm ∨ x = big) ∧ ∀ c ∈ u, c ≠ sm ∧ c ≠ big := by
  induction l with
  | nil => exact .inl fun c h => by cases h
  | cons c t ih =>
    by_cases hc : c = sm ∨ c = big
    · exact .inr ⟨[], c, t, rfl, hc, fun c h => by cases h⟩
    · have hc' : c ≠ sm ∧ c ≠ big := ⟨fun h => hc (.inl h), fun h => hc (.inr h)⟩
      rcases ih with h | ⟨u, x, z, h1, h2, h3⟩
      · refine .inl fun y hy => ?_
        rcases List.mem_cons.1 hy with rfl | hy
        · exact hc'
        · exact h y hy
      · refine .inr ⟨c :: u, x, z, by rw [h1]; rfl, h2, fun y hy => ?_⟩
        rcases List.mem_cons.1 hy with rfl | hy
        · exact hc'
        · exact h3 y hy
theorem cut_none {sm big : UInt8} {g : List UInt8 → Bool} {l : List UInt8} (h : ∀ c ∈ l, c ≠ sm ∧ c ≠ big) : anyCut (fun a b => power sm big b && g a) l = false := by
  apply anyCut_no
  intro j hj
  cases hd : l.drop j with
  | nil => rfl
  | cons c t =>
    cases hp : power sm big (c :: t) with
    | false => rfl
    | true =>
      have hm : c ∈ l := List.mem_of_mem_drop (by rw [hd]; exact List.mem_cons_self ..)
      rcases power_head hp with e | e
      · exact absurd e (h c hm).1
      · exact absurd e (h c hm).2
theorem cut_first {sm big : UInt8} {g : List UInt8 → Bool} (hg : ∀ u, g u = true → ∀ c ∈ u, c ≠ sm ∧ c ≠ big) {u : List UInt8} {x : UInt8} {z : List UInt8} (hx : x = sm ∨ x = big) (h : ∀ c ∈ u, c ≠ sm ∧ c ≠ big) :
    anyCut (fun a b => power sm big b && g a) (u ++ x :: z) = (row 10 (unsign z) && g u) := by
  cases hv : (row 10 (unsign z) && g u) with
  | true =>
    apply anyCut_yes (k := u.length) (by simp)
    rw [List.take_left, List.drop_left, power_unsign z hx]
    exact hv
  | false =>
    apply anyCut_no
    intro j hj
    by_cases h1 : j < u.length
    · rw [List.drop_append_of_le_length (by omega), List.drop_eq_getElem_cons h1]
      cases hp : power sm big (u[j] :: u.drop (j + 1) ++ x :: z) with
      | false => rw [Bool.false_and]
      | true =>
        have hm := h u[j] (List.getElem_mem h1)
        rcases power_head hp with e | e
        · exact absurd e hm.1
        · exact absurd e hm.2
    · by_cases h2 : j = u.length
      · subst h2
        rw [List.take_left, List.drop_left, power_unsign z hx]
        exact hv
      · cases hgt : g ((u ++ x :: z).take j) with
        | false => rw [Bool.and_false]
        | true =>
          have hm := hg _ hgt x (by
            rw [List.take_append, List.take_of_length_le (by omega)]
            apply List.mem_append_right
            rw [show j - u.length = (j - u.length - 1) + 1 by omega, List.take_succ_cons]
            exact List.mem_cons_self ..)
          rcases hx with e | e
          · exact absurd e hm.1
          · exact absurd e hm.2

/-! both readings, one text -/
theorem hits_none {sm l : List UInt8} (h : ∀ c ∈ l, sm.contains c = false) : hits sm l 0 = false := by
  cases l with
  | nil => rfl
  | cons c t => exact h c (List.mem_cons_self ..)
theorem row_skip (z : List UInt8) : (digAt 10 z 0 && (skip 10 z).isEmpty) = row 10 z := by
  rw [skip_row (by decide)]
  cases h : row 10 z with
  | true => rw [row_digAt (by decide) h]; simp
  | false =>
    cases z with
    | nil => rfl
    | cons c t => simp
theorem decL_plain {l : List UInt8} (h : ∀ c ∈ l, c ≠ 101 ∧ c ≠ 69) :
    decL l = if mOk 10 l then (if mDot 10 l then 4 else if decide (l = [48]) || !decide (l.head? = some 48) then 3 else wholeP 8 (l.drop 1)) else 0 := by
  have e1 : decL l = (if hits [101, 69] (mR 10 l) 0 && !digAt 10 (unsign ((mR 10 l).drop 1)) 0 then 0
    else if (!digAt 10 l 0 && !mTail 10 l) || !(if hits [101, 69] (mR 10 l) 0 then skip 10 (unsign ((mR 10 l).drop 1)) else mR 10 l).isEmpty then 0
    else if mDot 10 l || hits [101, 69] (mR 10 l) 0 then 4
    else if decide (l = [48]) || !decide (l.head? = some 48) then 3
    else wholeP 8 (l.drop 1)) := rfl
  have e2 : hits [101, 69] (mR 10 l) 0 = false := hits_none fun c hc => by
    have := h c (mR_mem 10 l c hc)
    simpa using this
  rw [e1, e2]
  simp only [Bool.false_eq_true, if_false, Bool.false_and, Bool.or_false]
  unfold mOk
  cases digAt 10 l 0 <;> cases mTail 10 l <;> cases (mR 10 l).isEmpty <;> cases mDot 10 l <;> rfl
theorem decL_pow {u : List UInt8} {x : UInt8} {z : List UInt8} (hx : x = 101 ∨ x = 69) (h : ∀ c ∈ u, c ≠ 101 ∧ c ≠ 69) :
    decL (u ++ x :: z) = if row 10 (unsign z) && mOk 10 u then 4 else 0 := by
  have e1 : ∀ l, decL l = (if hits [101, 69] (mR 10 l) 0 && !digAt 10 (unsign ((mR 10 l).drop 1)) 0 then 0
    else if (!digAt 10 l 0 && !mTail 10 l) || !(if hits [101, 69] (mR 10 l) 0 then skip 10 (unsign ((mR 10 l).drop 1)) else mR 10 l).isEmpty then 0
    else if mDot 10 l || hits [101, 69] (mR 10 l) 0 then 4
    else if decide (l = [48]) || !decide (l.head? = some 48) then 3
    else wholeP 8 (l.drop 1)) := fun _ => rfl
  have h1 : dig 10 x = false := by rcases hx with e | e <;> rw [e] <;> decide
  have h2 : x ≠ 95 := by rcases hx with e | e <;> rw [e] <;> decide
  have h3 : x ≠ 46 := by rcases hx with e | e <;> rw [e] <;> decide
  have h4 : ([101, 69] : List UInt8).contains x = true := by rcases hx with e | e <;> rw [e] <;> decide
  rw [e1, mR_app z u h1 h2 h3, mTail_app z u h1 h2 h3, mDot_app z u h1 h2 h3, digAt_app z h1]
  cases hm : mR 10 u with
  | nil =>
    rw [List.nil_append, hits_cons, h4, List.drop_one, List.tail_cons, ← row_skip]
    simp only [if_true, Bool.true_and, Bool.or_true]
    unfold mOk
    rw [hm]
    cases digAt 10 (unsign z) 0 <;> cases (skip 10 (unsign z)).isEmpty <;> cases digAt 10 u 0 <;> cases mTail 10 u <;> cases mDot 10 u <;> rfl
  | cons c t =>
    have hc : ([101, 69] : List UInt8).contains c = false := by
      have := h c (mR_mem 10 u c (by rw [hm]; exact List.mem_cons_self ..))
      simpa using this
    have hk : mOk 10 u = false := by unfold mOk; rw [hm]; rfl
    rw [List.cons_append, hits_cons, hc, hk]
    simp only [Bool.false_eq_true, if_false, Bool.false_and, Bool.or_false]
    cases digAt 10 u 0 <;> cases mTail 10 u <;> cases row 10 (unsign z) <;> rfl
theorem unled_app {x : UInt8} (z u : List UInt8) (h2 : x ≠ 95) : unled (u ++ x :: z) = unled u ++ x :: z := by
  have hl : led (u ++ x :: z) = led u := by unfold led; exact hits_app z u (by simpa using h2)
  unfold unled
  rw [hl]
  rcases led_cases u with ⟨h, t, e, _⟩ | ⟨h, _, _⟩
  · rw [h, e]; rfl
  · rw [h]; rfl
theorem led_app {x : UInt8} (z u : List UInt8) (h2 : x ≠ 95) : led (u ++ x :: z) = led u := by unfold led; exact hits_app z u (by simpa using h2)
theorem unled_mem (u : List UInt8) (c : UInt8) (h : c ∈ unled u) : c ∈ u := by
  unfold unled at h
  split at h
  · exact List.mem_of_mem_drop h
  · exact h
theorem hexL_is (l : List UInt8) : hexL l = (if !digAt 16 (unled l) 0 && (led l || !mTail 16 (unled l)) then 0
    else if (mR 16 (unled l)).isEmpty && !mDot 16 (unled l) then 3
    else if !hits [112, 80] (mR 16 (unled l)) 0 then 0
    else if !digAt 10 (unsign ((mR 16 (unled l)).drop 1)) 0 || !(skip 10 (unsign ((mR 16 (unled l)).drop 1))).isEmpty then 0
    else 4) := rfl
theorem hexL_plain {l : List UInt8} (h : ∀ c ∈ l, c ≠ 112 ∧ c ≠ 80) : hexL l = if hOk l && !mDot 16 (unled l) then 3 else 0 := by
  have e2 : hits [112, 80] (mR 16 (unled l)) 0 = false := hits_none fun c hc => by
    have := h c (unled_mem l c (mR_mem 16 _ c hc))
    simpa using this
  rw [hexL_is, e2]
  unfold hOk
  cases digAt 16 (unled l) 0 <;> cases mTail 16 (unled l) <;> cases (mR 16 (unled l)).isEmpty <;> cases mDot 16 (unled l) <;> cases led l <;> rfl
theorem hexL_pow {u : List UInt8} {x : UInt8} {z : List UInt8} (hx : x = 112 ∨ x = 80) (h : ∀ c ∈ u, c ≠ 112 ∧ c ≠ 80) :
    hexL (u ++ x :: z) = if row 10 (unsign z) && hOk u then 4 else 0 := by
  have h1 : dig 16 x = false := by rcases hx with e | e <;> rw [e] <;> decide
  have h2 : x ≠ 95 := by rcases hx with e | e <;> rw [e] <;> decide
  have h3 : x ≠ 46 := by rcases hx with e | e <;> rw [e] <;> decide
  have h4 : ([112, 80] : List UInt8).contains x = true := by rcases hx with e | e <;> rw [e] <;> decide
  rw [hexL_is, unled_app z u h2, led_app z u h2, mR_app z _ h1 h2 h3, mTail_app z _ h1 h2 h3, mDot_app z _ h1 h2 h3, digAt_app z h1]
  cases hm : mR 16 (unled u) with
  | nil =>
    rw [List.nil_append, hits_cons, h4, List.drop_one, List.tail_cons, ← row_skip]
    unfold hOk
    rw [hm]
    cases digAt 10 (unsign z) 0 <;> cases (skip 10 (unsign z)).isEmpty <;> cases digAt 16 (unled u) 0 <;> cases mTail 16 (unled u) <;> cases mDot 16 (unled u) <;> cases led u <;> rfl
  | cons c t =>
    have hc : ([112, 80] : List UInt8).contains c = false := by
      have := h c (unled_mem u c (mR_mem 16 _ c (by rw [hm]; exact List.mem_cons_self ..)))
      simpa using this
    have hk : hOk u = false := by unfold hOk; rw [hm]; rfl
    rw [List.cons_append, hits_cons, hc, hk]
    cases digAt 16 (unled u) 0 <;> cases mTail 16 (unled u) <;> cases led u <;> cases row 10 (unsign z) <;> rfl

/-! what the document's forms hold -/
theorem under_chars {base : Nat} {l : List UInt8} (h : under base l = true) : ∀ c ∈ l, dig base c = true ∨ c = 95 := by
  unfold under at h
  rw [Bool.or_eq_true] at h
  rcases h with h | h
  · exact row_chars l h
  · rw [Bool.and_eq_true] at h
    cases l with
    | nil => intro c hc; cases hc
    | cons d t =>
      intro c hc
      rcases List.mem_cons.1 hc with rfl | hc
      · right; simpa using h.1
      · exact row_chars t h.2 c hc
theorem points_chars {base : Nat} {hex : Bool} {l : List UInt8} (h : points base hex l = true) : ∀ c ∈ l, dig base c = true ∨ c = 95 ∨ c = 46 := by
  unfold points at h
  rcases point_split l with ⟨e1, _⟩ | ⟨a, b, e1, e2, e3, _⟩
  · rw [e1] at h; cases h
  · rw [e3, e2] at h
    dsimp only at h
    have ha : ∀ c ∈ a, dig base c = true ∨ c = 95 := by
      rw [Bool.or_eq_true] at h
      rcases h with h | h
      · rw [Bool.and_eq_true, Bool.or_eq_true] at h
        rcases h.1 with h1 | h1
        · exact row_chars a h1
        · rw [Bool.and_eq_true] at h1; exact under_chars h1.2
      · rw [Bool.and_eq_true] at h
        have : a = [] := by simpa using h.1
        rw [this]; intro c hc; cases hc
    have hb : ∀ c ∈ b, dig base c = true ∨ c = 95 := by
      rw [Bool.or_eq_true] at h
      rcases h with h | h
      · rw [Bool.and_eq_true] at h
        have h2 := h.2
        rw [Bool.or_eq_true] at h2
        rcases h2 with h1 | h1
        · have : b = [] := by simpa using h1
          rw [this]; intro c hc; cases hc
        · exact row_chars b h1
      · rw [Bool.and_eq_true] at h; exact row_chars b h.2
    rw [e1]
    intro c hc
    rcases List.mem_append.1 hc with hc | hc
    · rcases ha c hc with h1 | h1
      · exact .inl h1
      · exact .inr (.inl h1)
    · rcases List.mem_cons.1 hc with rfl | hc
      · exact .inr (.inr rfl)
      · rcases hb c hc with h1 | h1
        · exact .inl h1
        · exact .inr (.inl h1)
theorem row_mono {b1 b2 : Nat} (h : b1 ≤ b2) : ∀ l : List UInt8, row b1 l = true → row b2 l = true
  | [], hr => by cases hr
  | [c], hr => by
    have hr' : dig b1 c = true := hr
    show dig b2 c = true
    unfold dig at hr' ⊢
    rw [decide_eq_true_eq] at hr' ⊢
    omega
  | c :: d :: t, hr => by
    have hr' : (dig b1 c && (if d = 95 then row b1 t else row b1 (d :: t))) = true := hr
    show (dig b2 c && (if d = 95 then row b2 t else row b2 (d :: t))) = true
    rw [Bool.and_eq_true] at hr' ⊢
    refine ⟨?_, ?_⟩
    · have := hr'.1
      unfold dig at this ⊢
      rw [decide_eq_true_eq] at this ⊢
      omega
    · by_cases hd : d = 95
      · rw [if_pos hd] at hr' ⊢; exact row_mono h t hr'.2
      · rw [if_neg hd] at hr' ⊢; exact row_mono h (d :: t) hr'.2
theorem octal_row {t : List UInt8} (h : under 8 t = true) : row 10 (48 :: t) = true := by
  have h48 : dig 10 48 = true := by decide
  unfold under at h
  rw [Bool.or_eq_true] at h
  cases t with
  | nil => rcases h with h | h <;> cases h
  | cons d t =>
    rcases h with h | h
    · have h1 := row_mono (show 8 ≤ 10 by decide) _ h
      have hd : d ≠ 95 := by
        intro e
        rw [e, row_bar (by decide)] at h1; cases h1
      show (dig 10 48 && (if d = 95 then row 10 t else row 10 (d :: t))) = true
      rw [if_neg hd, h48, h1]; rfl
    · rw [Bool.and_eq_true] at h
      have hd : d = 95 := by simpa using h.1
      show (dig 10 48 && (if d = 95 then row 10 t else row 10 (d :: t))) = true
      rw [if_pos hd, h48, row_mono (show 8 ≤ 10 by decide) t h.2]; rfl
theorem wholeP_under {base : Nat} (hb : base ≤ 16) (l : List UInt8) : wholeP base l = if under base l then 3 else 0 := by
  unfold wholeP
  rw [isRow_row hb]
  have e : row base (Lib.trimPrefix l [95]) = under base l := by
    cases l with
    | nil => rfl
    | cons c t =>
      by_cases hc : c = 95
      · subst hc; rw [under_bar hb]; rfl
      · rw [under_plain (by simpa using hc)]
        have : Lib.hasPrefix (c :: t) [95] = false := by
          unfold Lib.hasPrefix
          show ((95 : UInt8) == c && _) = false
          have : ((95 : UInt8) == c) = false := by simpa using fun e => hc e.symm
          rw [this]; rfl
        unfold Lib.trimPrefix
        rw [this]; rfl
  rw [e]

/-! the agreement -/
theorem dig10_letter {c : UInt8} (h : dig 10 c = true ∨ c = 95) : c ≠ 101 ∧ c ≠ 69 ∧ c ≠ 46 ∧ c ≠ 105 := by
  refine ⟨?_, ?_, ?_, ?_⟩ <;> (rintro rfl; revert h; decide)
theorem dig16_letter {c : UInt8} (h : dig 16 c = true ∨ c = 95) : c ≠ 112 ∧ c ≠ 80 ∧ c ≠ 46 ∧ c ≠ 105 := by
  refine ⟨?_, ?_, ?_, ?_⟩ <;> (rintro rfl; revert h; decide)
theorem dec_g (u : List UInt8) (h : (points 10 false u || row 10 u) = true) : ∀ c ∈ u, c ≠ 101 ∧ c ≠ 69 := by
  intro c hc
  rw [Bool.or_eq_true] at h
  rcases h with h | h
  · rcases points_chars h c hc with h1 | h1 | h1
    · exact ⟨(dig10_letter (.inl h1)).1, (dig10_letter (.inl h1)).2.1⟩
    · exact ⟨(dig10_letter (.inr h1)).1, (dig10_letter (.inr h1)).2.1⟩
    · subst h1; decide
  · have h1 := dig10_letter (row_chars u h c hc)
    exact ⟨h1.1, h1.2.1⟩
theorem hex_g (u : List UInt8) (h : (points 16 true u || under 16 u) = true) : ∀ c ∈ u, c ≠ 112 ∧ c ≠ 80 := by
  intro c hc
  rw [Bool.or_eq_true] at h
  rcases h with h | h
  · rcases points_chars h c hc with h1 | h1 | h1
    · exact ⟨(dig16_letter (.inl h1)).1, (dig16_letter (.inl h1)).2.1⟩
    · exact ⟨(dig16_letter (.inr h1)).1, (dig16_letter (.inr h1)).2.1⟩
    · subst h1; decide
  · have h1 := dig16_letter (under_chars h c hc)
    exact ⟨h1.1, h1.2.1⟩
/-- a number as the document has it, whole or broken -/
def numOf (l : List UInt8) : Nat := if whole? l then 3 else if broken? l then 4 else 0
theorem whole_dec (l : List UInt8) : (decide (l = [48]) || (row 10 l && !decide (l.head? = some 48)) || (decide (l.head? = some 48) && under 8 (l.drop 1))) = true → row 10 l = true := by
  intro h
  rw [Bool.or_eq_true, Bool.or_eq_true] at h
  rcases h with (h | h) | h
  · have : l = [48] := by simpa using h
    rw [this]; decide
  · rw [Bool.and_eq_true] at h; exact h.1
  · rw [Bool.and_eq_true] at h
    cases l with
    | nil => simp at h
    | cons c t =>
      have hc : c = 48 := by simpa using h.1
      rw [hc]; exact octal_row h.2
theorem dec_agree (l : List UInt8) : decP l = if (decide (l = [48]) || (row 10 l && !decide (l.head? = some 48)) || (decide (l.head? = some 48) && under 8 (l.drop 1))) = true then 3 else if (points 10 false l || anyCut decCut l) = true then 4 else 0 := by
  rw [decP_L]
  have hcut : anyCut decCut l = anyCut (fun a b => power 101 69 b && (points 10 false a || row 10 a)) l := rfl
  rw [hcut]
  rcases pow_split 101 69 l with h | ⟨u, x, z, rfl, hx, h⟩
  · rw [decL_plain h, cut_none h, Bool.or_false, mOk_or (by decide)]
    have h1 := mOk_dot (show 10 ≤ 16 by decide) l
    have h2 := mOk_row (show 10 ≤ 16 by decide) l
    have hw := whole_dec l
    cases hp : points 10 false l with
    | true =>
      rw [hp] at h1
      rw [Bool.and_eq_true] at h1
      rw [h1.2, h1.1] at h2
      have hr : row 10 l = false := h2.symm
      rw [hr] at hw
      have hwf : (decide (l = [48]) || (row 10 l && !decide (l.head? = some 48)) || (decide (l.head? = some 48) && under 8 (l.drop 1))) = false := by
        cases hh : (decide (l = [48]) || (row 10 l && !decide (l.head? = some 48)) || (decide (l.head? = some 48) && under 8 (l.drop 1))) with
        | false => rfl
        | true => rw [hr] at hh; exact absurd (hw hh) (by decide)
      rw [hwf, h1.2]; rfl
    | false =>
      cases hr : row 10 l with
      | false =>
        rw [hr] at hw
        have hwf : (decide (l = [48]) || (false && !decide (l.head? = some 48)) || (decide (l.head? = some 48) && under 8 (l.drop 1))) = false := by
          cases hh : (decide (l = [48]) || (false && !decide (l.head? = some 48)) || (decide (l.head? = some 48) && under 8 (l.drop 1))) with
          | false => rfl
          | true => exact absurd (hw hh) (by decide)
        rw [hwf]; rfl
      | true =>
        rw [hr] at h2
        rw [Bool.and_eq_true] at h2
        have hd : mDot 10 l = false := by simpa using h2.2
        rw [hd, wholeP_under (by decide)]
        cases decide (l = [48]) <;> cases decide (l.head? = some 48) <;> cases under 8 (l.drop 1) <;> rfl
  · rw [decL_pow hx h, cut_first dec_g hx h, mOk_or (by decide)]
    have hxm : x ∈ u ++ x :: z := by simp
    have hx1 : ¬ (dig 10 x = true ∨ x = 95) := by
      intro hh
      rcases hx with e | e
      · exact (dig10_letter hh).1 e
      · exact (dig10_letter hh).2.1 e
    have hr : row 10 (u ++ x :: z) = false := by
      cases hh : row 10 (u ++ x :: z) with
      | false => rfl
      | true => exact absurd (row_chars _ hh x hxm) hx1
    have hp : points 10 false (u ++ x :: z) = false := by
      cases hh : points 10 false (u ++ x :: z) with
      | false => rfl
      | true =>
        rcases points_chars hh x hxm with h1 | h1 | h1
        · exact absurd (.inl h1) hx1
        · exact absurd (.inr h1) hx1
        · rcases hx with e | e <;> (rw [e] at h1; exact absurd h1 (by decide))
    have hwf : (decide (u ++ x :: z = [48]) || (row 10 (u ++ x :: z) && !decide ((u ++ x :: z).head? = some 48)) || (decide ((u ++ x :: z).head? = some 48) && under 8 ((u ++ x :: z).drop 1))) = false := by
      cases hh : (decide (u ++ x :: z = [48]) || (row 10 (u ++ x :: z) && !decide ((u ++ x :: z).head? = some 48)) || (decide ((u ++ x :: z).head? = some 48) && under 8 ((u ++ x :: z).drop 1))) with
      | false => rfl
      | true => have := whole_dec _ hh; rw [hr] at this; exact absurd this (by decide)
    rw [hwf, hp, Bool.false_or]
    simp only [Bool.false_eq_true, if_false]
theorem hex_agree (l : List UInt8) : hexP l = if under 16 l = true then 3 else if anyCut hexCut l = true then 4 else 0 := by
  rw [hexP_L]
  have hcut : anyCut hexCut l = anyCut (fun a b => power 112 80 b && (points 16 true a || under 16 a)) l := rfl
  rw [hcut]
  rcases pow_split 112 80 l with h | ⟨u, x, z, rfl, hx, h⟩
  · rw [hexL_plain h, cut_none h, (hOk_both l).2]
    cases under 16 l <;> rfl
  · rw [hexL_pow hx h, cut_first hex_g hx h, hOk_or]
    have hxm : x ∈ u ++ x :: z := by simp
    have hun : under 16 (u ++ x :: z) = false := by
      cases hh : under 16 (u ++ x :: z) with
      | false => rfl
      | true =>
        have h1 := dig16_letter (under_chars hh x hxm)
        rcases hx with e | e
        · exact absurd e h1.1
        · exact absurd e h1.2.1
    rw [hun]
    simp only [Bool.false_eq_true, if_false]
/-- a text with a letter behind its first 0 is no decimal one -/
theorem lettered {d : UInt8} (t : List UInt8) (h1 : dig 10 d = false) (h2 : d ≠ 95) (h3 : d ≠ 46) (h4 : d ≠ 101 ∧ d ≠ 69) :
    points 10 false (48 :: d :: t) = false ∧ row 10 (48 :: d :: t) = false ∧ anyCut decCut (48 :: d :: t) = false := by
  have hch : ∀ {l : List UInt8}, d ∈ l → row 10 l = false := fun {l} hm => by
    cases hh : row 10 l with
    | false => rfl
    | true =>
      rcases row_chars l hh d hm with e | e
      · rw [h1] at e; cases e
      · exact absurd e h2
  have hpt : ∀ {l : List UInt8}, d ∈ l → points 10 false l = false := fun {l} hm => by
    cases hh : points 10 false l with
    | false => rfl
    | true =>
      rcases points_chars hh d hm with e | e | e
      · rw [h1] at e; cases e
      · exact absurd e h2
      · exact absurd e h3
  refine ⟨hpt (by simp), hch (by simp), ?_⟩
  have hcut : anyCut decCut (48 :: d :: t) = anyCut (fun a b => power 101 69 b && (points 10 false a || row 10 a)) (48 :: d :: t) := rfl
  rw [hcut]
  rcases pow_split 101 69 (48 :: d :: t) with h | ⟨u, x, z, e, hx, h⟩
  · exact cut_none h
  · have hm : d ∈ u := by
      cases u with
      | nil =>
        simp at e
        rcases hx with hx | hx <;> (rw [← e.1] at hx; exact absurd hx (by decide))
      | cons c u' =>
        cases u' with
        | nil =>
          simp at e
          rcases hx with hx | hx
          · exact absurd (e.2.1.trans hx) h4.1
          · exact absurd (e.2.1.trans hx) h4.2
        | cons c' u'' =>
          simp at e
          rw [e.2.1]; simp
    rw [e, cut_first dec_g hx h, hch hm, hpt hm]
    simp
theorem under_letter {d : UInt8} (t : List UInt8) (h1 : dig 8 d = false) (h2 : d ≠ 95) : under 8 (d :: t) = false := by
  rw [under_plain (by simpa using h2)]
  cases t with
  | nil => exact h1
  | cons c t => show (dig 8 d && _) = false; rw [h1]; rfl
theorem plain_agree (l : List UInt8) : plainP l = numOf l := by
  unfold plainP numOf
  by_cases hz : ∃ d t, l = 48 :: d :: t ∧ (d = 98 ∨ d = 66 ∨ d = 111 ∨ d = 79 ∨ d = 120 ∨ d = 88)
  · obtain ⟨d, t, rfl, hd⟩ := hz
    have h1 : dig 10 d = false := by rcases hd with e | e | e | e | e | e <;> rw [e] <;> decide
    have h1' : dig 8 d = false := by rcases hd with e | e | e | e | e | e <;> rw [e] <;> decide
    have h2 : d ≠ 95 := by rcases hd with e | e | e | e | e | e <;> rw [e] <;> decide
    have h3 : d ≠ 46 := by rcases hd with e | e | e | e | e | e <;> rw [e] <;> decide
    have h4 : d ≠ 101 ∧ d ≠ 69 := by rcases hd with e | e | e | e | e | e <;> rw [e] <;> decide
    obtain ⟨p1, p2, p3⟩ := lettered t h1 h2 h3 h4
    have hw : whole? (48 :: d :: t) = if head? 98 66 (48 :: d :: t) then under 2 t else if head? 111 79 (48 :: d :: t) then under 8 t else head? 120 88 (48 :: d :: t) && under 16 t := by
      unfold whole?
      rw [p2, show (48 :: d :: t).drop 1 = d :: t from rfl, under_letter t h1' h2]
      simp
    have hb : broken? (48 :: d :: t) = (head? 120 88 (48 :: d :: t) && anyCut hexCut t) := by
      unfold broken?
      rw [p1, p3]
      cases head? 120 88 (48 :: d :: t) <;> rfl
    have hdr : (48 :: d :: t).drop 2 = t := rfl
    rw [hw, hb, hdr, wholeP_under (by decide), wholeP_under (by decide), hex_agree]
    have hh : ∀ a b, head? a b (48 :: d :: t) = (decide (d = a) || decide (d = b)) := fun a b => by simp [head?]
    rw [hh, hh, hh]
    rcases hd with e | e | e | e | e | e <;> subst e <;> simp
  · have hh : ∀ a b : UInt8, (a = 98 ∨ a = 66 ∨ a = 111 ∨ a = 79 ∨ a = 120 ∨ a = 88) → (b = 98 ∨ b = 66 ∨ b = 111 ∨ b = 79 ∨ b = 120 ∨ b = 88) → head? a b l = false := by
      intro a b ha hb
      match l with
      | [] => rfl
      | [c] => rfl
      | c :: d :: t =>
        cases h : head? a b (c :: d :: t) with
        | false => rfl
        | true =>
          have h' : (decide (c = 48) && (decide (d = a) || decide (d = b))) = true := h
          rw [Bool.and_eq_true, Bool.or_eq_true, decide_eq_true_eq, decide_eq_true_eq, decide_eq_true_eq] at h'
          obtain ⟨e1, e2⟩ := h'
          exfalso
          apply hz
          refine ⟨d, t, by rw [e1], ?_⟩
          rcases e2 with e | e
          · rw [e]; exact ha
          · rw [e]; exact hb
    have hb1 := hh 98 66 (by decide) (by decide)
    have hb2 := hh 111 79 (by decide) (by decide)
    have hb3 := hh 120 88 (by decide) (by decide)
    unfold whole? broken?
    rw [hb1, hb2, hb3, dec_agree]
    simp

/-! no number but an imaginary one ends in an i -/
theorem whole_chars {l : List UInt8} (h : whole? l = true) : ∀ c ∈ l, c ≠ 105 := by
  intro c hc
  have row_no : ∀ {b : Nat} {m : List UInt8}, b ≤ 16 → row b m = true → c ∈ m → c ≠ 105 := fun {b m} hb hr hm => by
    rcases row_chars m hr c hm with e | e
    · rintro rfl
      unfold dig at e
      rw [decide_eq_true_eq] at e
      have : val 105 = 99 := by decide
      omega
    · rw [e]; decide
  have under_no : ∀ {b : Nat} {m : List UInt8}, b ≤ 16 → under b m = true → c ∈ m → c ≠ 105 := fun {b m} hb hr hm => by
    rcases under_chars hr c hm with e | e
    · rintro rfl
      unfold dig at e
      rw [decide_eq_true_eq] at e
      have : val 105 = 99 := by decide
      omega
    · rw [e]; decide
  have two : ∀ {a b : UInt8} {k : Nat}, a ≠ 105 → b ≠ 105 → k ≤ 16 → head? a b l = true → under k (l.drop 2) = true → c ≠ 105 := fun {a b k} ha hb hk h1 h2 => by
    match l, h1, h2, hc with
    | e :: d :: t, h1, h2, hc =>
      have h' : (decide (e = 48) && (decide (d = a) || decide (d = b))) = true := h1
      rw [Bool.and_eq_true, Bool.or_eq_true, decide_eq_true_eq, decide_eq_true_eq, decide_eq_true_eq] at h'
      rcases List.mem_cons.1 hc with hc | hc
      · rw [hc, h'.1]; decide
      · rcases List.mem_cons.1 hc with hc | hc
        · rw [hc]; rcases h'.2 with e | e <;> rw [e] <;> assumption
        · exact under_no hk h2 hc
  by_cases hd : (decide (l = [48]) || (row 10 l && !decide (l.head? = some 48)) || (decide (l.head? = some 48) && under 8 (l.drop 1))) = true
  · exact row_no (by decide) (whole_dec l hd) hc
  · have hd' : (decide (l = [48]) || (row 10 l && !decide (l.head? = some 48)) || (decide (l.head? = some 48) && under 8 (l.drop 1))) = false := by simpa using hd
    unfold whole? at h
    rw [hd', Bool.false_or] at h
    cases h1 : head? 98 66 l with
    | true => rw [h1, if_pos rfl] at h; exact two (by decide) (by decide) (by decide) h1 h
    | false =>
      rw [h1, if_neg (by decide)] at h
      cases h2 : head? 111 79 l with
      | true => rw [h2, if_pos rfl] at h; exact two (by decide) (by decide) (by decide) h2 h
      | false =>
        rw [h2, if_neg (by decide), Bool.and_eq_true] at h
        exact two (by decide) (by decide) (by decide) h.1 h.2
theorem power_chars {sm big : UInt8} (h1 : sm ≠ 105) (h2 : big ≠ 105) {l : List UInt8} (h : power sm big l = true) : ∀ c ∈ l, c ≠ 105 := by
  cases l with
  | nil => cases h
  | cons x z =>
    have hx := power_head h
    rw [power_unsign z hx] at h
    intro c hc
    rcases List.mem_cons.1 hc with hc | hc
    · rw [hc]; rcases hx with e | e <;> rw [e] <;> assumption
    · unfold unsign at h
      split at h
      · rename_i hs
        cases z with
        | nil => cases hs
        | cons d t =>
          rcases List.mem_cons.1 hc with hc | hc
          · rw [hits_cons] at hs
            rw [hc]; rintro rfl; revert hs; decide
          · exact (dig10_letter (row_chars _ h c hc)).2.2.2
      · exact (dig10_letter (row_chars _ h c hc)).2.2.2
theorem cut_chars {f : List UInt8 → List UInt8 → Bool} {l : List UInt8} (hf : ∀ a b, f a b = true → ∀ c ∈ a ++ b, c ≠ 105) (h : anyCut f l = true) : ∀ c ∈ l, c ≠ 105 := by
  unfold anyCut at h
  rw [List.any_eq_true] at h
  obtain ⟨i, _, hi⟩ := h
  have := hf _ _ hi
  rw [List.take_append_drop] at this
  exact this
theorem broken_chars {l : List UInt8} (h : broken? l = true) : ∀ c ∈ l, c ≠ 105 := by
  have dec : ∀ u, (points 10 false u || row 10 u) = true → ∀ c ∈ u, c ≠ 105 := by
    intro u h c hc
    rw [Bool.or_eq_true] at h
    rcases h with h | h
    · rcases points_chars h c hc with e | e | e
      · exact (dig10_letter (.inl e)).2.2.2
      · exact (dig10_letter (.inr e)).2.2.2
      · rw [e]; decide
    · exact (dig10_letter (row_chars u h c hc)).2.2.2
  have hex : ∀ u, (points 16 true u || under 16 u) = true → ∀ c ∈ u, c ≠ 105 := by
    intro u h c hc
    rw [Bool.or_eq_true] at h
    rcases h with h | h
    · rcases points_chars h c hc with e | e | e
      · exact (dig16_letter (.inl e)).2.2.2
      · exact (dig16_letter (.inr e)).2.2.2
      · rw [e]; decide
    · exact (dig16_letter (under_chars h c hc)).2.2.2
  unfold broken? at h
  cases hx : head? 120 88 l with
  | true =>
    rw [hx, if_pos rfl] at h
    match l, hx, h with
    | e :: d :: t, hx, h =>
      have h' : (decide (e = 48) && (decide (d = 120) || decide (d = 88))) = true := hx
      rw [Bool.and_eq_true, Bool.or_eq_true, decide_eq_true_eq, decide_eq_true_eq, decide_eq_true_eq] at h'
      intro c hc
      rcases List.mem_cons.1 hc with hc | hc
      · rw [hc, h'.1]; decide
      · rcases List.mem_cons.1 hc with hc | hc
        · rw [hc]; rcases h'.2 with e | e <;> rw [e] <;> decide
        · refine cut_chars (fun a b hf c hc => ?_) h c hc
          have hf' : (power 112 80 b && (points 16 true a || under 16 a)) = true := hf
          rw [Bool.and_eq_true] at hf'
          rcases List.mem_append.1 hc with hc | hc
          · exact hex a hf'.2 c hc
          · exact power_chars (by decide) (by decide) hf'.1 c hc
  | false =>
    rw [hx, if_neg (by decide), Bool.or_eq_true] at h
    rcases h with h | h
    · exact dec l (by rw [h]; rfl)
    · refine cut_chars (fun a b hf c hc => ?_) h
      have hf' : (power 101 69 b && (points 10 false a || row 10 a)) = true := hf
      rw [Bool.and_eq_true] at hf'
      rcases List.mem_append.1 hc with hc | hc
      · exact dec a hf'.2 c hc
      · exact power_chars (by decide) (by decide) hf'.1 c hc
theorem suffix_i (l : List UInt8) : Lib.hasSuffix l [105] = decide (l.getLast? = some 105) := by
  unfold Lib.hasSuffix
  rw [Bool.eq_iff_iff, List.isSuffixOf_iff_suffix, decide_eq_true_eq]
  constructor
  · rintro ⟨t, rfl⟩; simp
  · intro h
    obtain ⟨t, rfl⟩ := List.getLast?_eq_some_iff.1 h
    exact ⟨t, rfl⟩
theorem numOf_pos (l : List UInt8) : numOf l ≠ 0 ↔ (whole? l = true ∨ broken? l = true) := by
  unfold numOf
  cases whole? l <;> cases broken? l <;> simp
theorem kind_agree (l : List UInt8) : kindP l = kindOf l := by
  unfold kindP kindOf
  rw [plain_agree, suffix_i, isRow_row (by decide)]
  by_cases hl : l.getLast? = some 105
  · rw [decide_eq_true hl, if_pos rfl]
    have hm : (105 : UInt8) ∈ l := by
      obtain ⟨t, rfl⟩ := List.getLast?_eq_some_iff.1 hl
      simp
    have hw : whole? l = false := by
      cases h : whole? l with
      | false => rfl
      | true => exact absurd rfl (whole_chars h 105 hm)
    have hb : broken? l = false := by
      cases h : broken? l with
      | false => rfl
      | true => exact absurd rfl (broken_chars h 105 hm)
    have ht : Lib.trimSuffix l [105] = l.dropLast := by
      unfold Lib.trimSuffix
      rw [suffix_i, decide_eq_true hl, if_pos rfl, List.dropLast_eq_take]; rfl
    rw [hw, hb, ht]
    simp only [Bool.false_eq_true, if_false]
    by_cases h1 : 1 < l.length
    · have e : (numOf l.dropLast ≠ 0 ∨ row 10 l.dropLast = true) ↔ (1 < l.length ∧ l.getLast? = some 105 ∧ (whole? l.dropLast = true ∨ broken? l.dropLast = true ∨ row 10 l.dropLast = true)) := by
        rw [numOf_pos]
        simp only [h1, hl, true_and, or_assoc]
      simp only [e]
    · have h0 : l.dropLast = [] := by
        apply List.eq_nil_of_length_eq_zero
        rw [List.length_dropLast]; omega
      rw [h0, if_neg (by decide), if_neg (by omega)]
  · have hs : Lib.trimSuffix l [105] = l := by
      unfold Lib.trimSuffix
      rw [suffix_i, decide_eq_false hl]; rfl
    rw [decide_eq_false hl, hs]
    unfold numOf
    rw [if_neg (by decide)]
    split
    · rfl
    · split
      · rfl
      · rw [if_neg (fun h => hl h.2.1)]
end Go.Proofs.YtoffjpgobhcipaaDoor.Num

/-
  Layer 5: what holds of numbers without their underscores, with an i behind, elsewhere, with a sign behind: plain.
-/
namespace Go.Proofs.YtoffjpgobhcipaaDoor.Num

/-! without underscores -/
def bare (l : List UInt8) : List UInt8 := l.filter fun x => decide (x ≠ 95)
theorem bare_cons {c : UInt8} (t : List UInt8) (h : c ≠ 95) : bare (c :: t) = c :: bare t := by
  unfold bare; rw [List.filter_cons_of_pos (by simpa using h)]
theorem bare_bar (t : List UInt8) : bare (95 :: t) = bare t := by
  unfold bare; rw [List.filter_cons_of_neg (by simp)]
theorem bare_app (a b : List UInt8) : bare (a ++ b) = bare a ++ bare b := List.filter_append ..
theorem mem_bare {c : UInt8} {l : List UInt8} (h : c ∈ bare l) : c ∈ l := (List.mem_filter.1 h).1
theorem dig_no_bar {base : Nat} {c : UInt8} (hb : base ≤ 16) (h : dig base c = true) : c ≠ 95 := by
  intro e; rw [e, dig_bar hb] at h; cases h
theorem row_bare {base : Nat} (hb : base ≤ 16) : ∀ l : List UInt8, row base l = true → row base (bare l) = true
  | [], h => by cases h
  | [c], h => by
    have h' : dig base c = true := h
    rw [bare_cons [] (dig_no_bar hb h')]; exact h
  | c :: d :: t, h => by
    have h' : (dig base c && (if d = 95 then row base t else row base (d :: t))) = true := h
    rw [Bool.and_eq_true] at h'
    rw [bare_cons _ (dig_no_bar hb h'.1)]
    have key : row base (bare (d :: t)) = true := by
      by_cases hd : d = 95
      · rw [if_pos hd] at h'
        rw [hd, bare_bar]; exact row_bare hb t h'.2
      · rw [if_neg hd] at h'
        exact row_bare hb (d :: t) h'.2
    cases hk : bare (d :: t) with
    | nil => rw [hk] at key; cases key
    | cons x y =>
      rw [hk] at key
      have hx : x ≠ 95 := by
        obtain ⟨z, e, h2⟩ := row_head key
        simp at e
        rw [e]; exact dig_no_bar hb h2
      show (dig base c && (if x = 95 then row base y else row base (x :: y))) = true
      rw [if_neg hx, h'.1, key]; rfl
theorem under_bare {base : Nat} (hb : base ≤ 16) {l : List UInt8} (h : under base l = true) : row base (bare l) = true := by
  unfold under at h
  rw [Bool.or_eq_true] at h
  rcases h with h | h
  · exact row_bare hb l h
  · rw [Bool.and_eq_true] at h
    cases l with
    | nil => cases h.2
    | cons c t =>
      have hc : c = 95 := by simpa using h.1
      rw [hc, bare_bar]; exact row_bare hb t h.2
theorem row_under {base : Nat} {l : List UInt8} (h : row base l = true) : under base l = true := by unfold under; rw [h]; rfl
theorem head_bare {a b : UInt8} {t : List UInt8} {c d : UInt8} (h : head? a b (c :: d :: t) = true) (ha : a ≠ 95) (hb : b ≠ 95) : bare (c :: d :: t) = c :: d :: bare t ∧ head? a b (c :: d :: bare t) = true := by
  have h' : (decide (c = 48) && (decide (d = a) || decide (d = b))) = true := h
  rw [Bool.and_eq_true, Bool.or_eq_true, decide_eq_true_eq, decide_eq_true_eq, decide_eq_true_eq] at h'
  have hc : c ≠ 95 := by rw [h'.1]; decide
  have hd : d ≠ 95 := by rcases h'.2 with e | e <;> rw [e] <;> assumption
  exact ⟨by rw [bare_cons _ hc, bare_cons _ hd], h⟩
theorem head_two {a b : UInt8} {l : List UInt8} (h : head? a b l = true) : ∃ c d t, l = c :: d :: t := by
  match l, h with
  | c :: d :: t, _ => exact ⟨c, d, t, rfl⟩
theorem head_apart {a b a' b' : UInt8} {l : List UInt8} (h : head? a b l = true) (h1 : a ≠ a' ∧ a ≠ b' ∧ b ≠ a' ∧ b ≠ b') : head? a' b' l = false := by
  match l, h with
  | c :: d :: t, h =>
    have h' : (decide (c = 48) && (decide (d = a) || decide (d = b))) = true := h
    rw [Bool.and_eq_true, Bool.or_eq_true, decide_eq_true_eq, decide_eq_true_eq, decide_eq_true_eq] at h'
    show (decide (c = 48) && (decide (d = a') || decide (d = b'))) = false
    rcases h'.2 with e | e <;> subst e
    · rw [decide_eq_false h1.1, decide_eq_false h1.2.1]; simp
    · rw [decide_eq_false h1.2.2.1, decide_eq_false h1.2.2.2]; simp
theorem whole_bare {l : List UInt8} (h : whole? l = true) : whole? (bare l) = true := by
  by_cases hd : (decide (l = [48]) || (row 10 l && !decide (l.head? = some 48)) || (decide (l.head? = some 48) && under 8 (l.drop 1))) = true
  · unfold whole?
    have goal : (decide (bare l = [48]) || (row 10 (bare l) && !decide ((bare l).head? = some 48)) || (decide ((bare l).head? = some 48) && under 8 ((bare l).drop 1))) = true := by
      rw [Bool.or_eq_true, Bool.or_eq_true] at hd
      rcases hd with (hd | hd) | hd
      · have : l = [48] := by simpa using hd
        rw [this]; decide
      · rw [Bool.and_eq_true] at hd
        obtain ⟨c, e, hc⟩ := row_head hd.1
        cases l with
        | nil => cases e
        | cons x t =>
          have hx : x = c := by simpa using e
          subst hx
          have hb : bare (x :: t) = x :: bare t := bare_cons t (dig_no_bar (by decide) hc)
          have h1 := row_bare (by decide) _ hd.1
          rw [hb] at h1 ⊢
          rw [h1]
          have h2 : decide ((x :: bare t).head? = some 48) = false := by simpa using hd.2
          rw [h2]; simp
      · rw [Bool.and_eq_true] at hd
        cases l with
        | nil => simp at hd
        | cons x t =>
          have hx : x = 48 := by simpa using hd.1
          subst hx
          rw [bare_cons t (by decide)]
          have : under 8 ((48 :: bare t).drop 1) = true := row_under (under_bare (by decide) hd.2)
          rw [this]; simp
    rw [goal]; rfl
  · have hd' : (decide (l = [48]) || (row 10 l && !decide (l.head? = some 48)) || (decide (l.head? = some 48) && under 8 (l.drop 1))) = false := by simpa using hd
    unfold whole? at h
    rw [hd', Bool.false_or] at h
    cases h1 : head? 98 66 l with
    | true =>
      rw [h1, if_pos rfl] at h
      obtain ⟨c, d, t, rfl⟩ := head_two h1
      obtain ⟨e, e2⟩ := head_bare h1 (by decide) (by decide)
      unfold whole?
      rw [e, e2, if_pos rfl]
      have : under 2 ((c :: d :: bare t).drop 2) = true := row_under (under_bare (by decide) h)
      rw [this]; simp
    | false =>
      rw [h1, if_neg (by decide)] at h
      cases h2 : head? 111 79 l with
      | true =>
        rw [h2, if_pos rfl] at h
        obtain ⟨c, d, t, rfl⟩ := head_two h2
        obtain ⟨e, e2⟩ := head_bare h2 (by decide) (by decide)
        unfold whole?
        rw [e, e2, head_apart e2 (by decide), if_neg (by decide), if_pos rfl]
        have : under 8 ((c :: d :: bare t).drop 2) = true := row_under (under_bare (by decide) h)
        rw [this]; simp
      | false =>
        rw [h2, if_neg (by decide), Bool.and_eq_true] at h
        obtain ⟨c, d, t, rfl⟩ := head_two h.1
        obtain ⟨e, e2⟩ := head_bare h.1 (by decide) (by decide)
        unfold whole?
        rw [e, e2, head_apart e2 (by decide), if_neg (by decide), head_apart e2 (by decide), if_neg (by decide)]
        have : under 16 ((c :: d :: bare t).drop 2) = true := row_under (under_bare (by decide) h.2)
        rw [this]; simp
theorem points_bare {base : Nat} (hb : base ≤ 16) {hex : Bool} {l : List UInt8} (h : points base hex l = true) : points base hex (bare l) = true := by
  unfold points at h
  rcases point_split l with ⟨e1, _⟩ | ⟨a, b, e1, e2, e3, e4⟩
  · rw [e1] at h; cases h
  · rw [e3, e2] at h
    dsimp only at h
    have hl : bare l = bare a ++ 46 :: bare b := by rw [e1, bare_app, bare_cons b (by decide)]
    have ha4 : ∀ c ∈ bare a, c ≠ 46 := fun c hc => e4 c (mem_bare hc)
    rcases point_split (bare l) with ⟨_, f2⟩ | ⟨a', b', f1, f2, f3, f4⟩
    · exact absurd rfl (f2 46 (by rw [hl]; simp))
    · have hab : a' = bare a ∧ b' = bare b := by
        rw [hl] at f1
        have key : ∀ (p q p' q' : List UInt8), p ++ 46 :: q = p' ++ 46 :: q' → (∀ c ∈ p, c ≠ 46) → (∀ c ∈ p', c ≠ 46) → p' = p ∧ q' = q := by
          intro p
          induction p with
          | nil =>
            intro q p' q' e h1 h2
            cases p' with
            | nil => simp at e; exact ⟨rfl, e.symm⟩
            | cons c t => simp at e; exact absurd e.1.symm (h2 c (List.mem_cons_self ..))
          | cons x t ih =>
            intro q p' q' e h1 h2
            cases p' with
            | nil => simp at e; exact absurd e.1 (h1 x (List.mem_cons_self ..))
            | cons c t' =>
              simp at e
              obtain ⟨i1, i2⟩ := ih q t' q' e.2 (fun c hc => h1 c (List.mem_cons_of_mem _ hc)) (fun c hc => h2 c (List.mem_cons_of_mem _ hc))
              exact ⟨by rw [i1, e.1], i2⟩
        exact key _ _ _ _ f1 ha4 f4
      unfold points
      rw [f3, f2]
      dsimp only
      rw [hab.1, hab.2]
      have hbb : (b.isEmpty || row base b) = true → ((bare b).isEmpty || row base (bare b)) = true := by
        intro h
        rw [Bool.or_eq_true] at h
        rcases h with h | h
        · have : b = [] := by simpa using h
          rw [this]; rfl
        · rw [row_bare hb b h]; simp
      rw [Bool.or_eq_true] at h
      rcases h with h | h
      · rw [Bool.and_eq_true] at h
        have h1 := h.1
        rw [Bool.or_eq_true] at h1
        have h2 : (row base (bare a) || (hex && under base (bare a))) = true := by
          rcases h1 with h1 | h1
          · rw [row_bare hb a h1]; rfl
          · rw [Bool.and_eq_true] at h1
            rw [under_bare hb h1.2]; rfl
        rw [h2, hbb h.2]; rfl
      · rw [Bool.and_eq_true] at h
        have : a = [] := by simpa using h.1
        rw [this, row_bare hb b h.2]
        simp [bare]
theorem unsign_bare {z : List UInt8} (h : row 10 (unsign z) = true) : row 10 (unsign (bare z)) = true := by
  cases z with
  | nil => cases h
  | cons d t =>
    unfold unsign at h
    rw [hits_cons] at h
    cases hd : ([43, 45] : List UInt8).contains d with
    | true =>
      rw [hd, if_pos rfl] at h
      have hd95 : d ≠ 95 := by rintro rfl; revert hd; decide
      rw [bare_cons t hd95]
      unfold unsign
      rw [hits_cons, hd, if_pos rfl]
      exact row_bare (by decide) _ h
    | false =>
      rw [hd, if_neg (by decide)] at h
      obtain ⟨c, e, hc⟩ := row_head h
      have hdc : d = c := by simpa using e
      subst hdc
      have h1 := row_bare (by decide) _ h
      rw [bare_cons t (dig_no_bar (by decide) hc)] at h1 ⊢
      unfold unsign
      rw [hits_cons, hd, if_neg (by decide)]
      exact h1
theorem cut_bare {sm big : UInt8} {g : List UInt8 → Bool} (hs1 : sm ≠ 95) (hs2 : big ≠ 95) (hg : ∀ u, g u = true → ∀ c ∈ u, c ≠ sm ∧ c ≠ big) (hgb : ∀ u, g u = true → g (bare u) = true) {l : List UInt8}
    (h : anyCut (fun a b => power sm big b && g a) l = true) : anyCut (fun a b => power sm big b && g a) (bare l) = true := by
  rcases pow_split sm big l with h1 | ⟨u, x, z, rfl, hx, h1⟩
  · rw [cut_none h1] at h; cases h
  · rw [cut_first hg hx h1, Bool.and_eq_true] at h
    have hx95 : x ≠ 95 := by rcases hx with e | e <;> rw [e] <;> assumption
    rw [bare_app, bare_cons z hx95, cut_first hg hx (fun c hc => h1 c (mem_bare hc)), unsign_bare h.1, hgb u h.2]; rfl
theorem broken_bare {l : List UInt8} (h : broken? l = true) : broken? (bare l) = true := by
  unfold broken? at h
  cases hx : head? 120 88 l with
  | true =>
    rw [hx, if_pos rfl] at h
    obtain ⟨c, d, t, rfl⟩ := head_two hx
    obtain ⟨e, e2⟩ := head_bare hx (by decide) (by decide)
    unfold broken?
    rw [e, e2, if_pos rfl]
    refine cut_bare (g := fun a => points 16 true a || under 16 a) (by decide) (by decide) hex_g (fun u hu => ?_) h
    rw [Bool.or_eq_true] at hu
    rcases hu with hu | hu
    · show (points 16 true (bare u) || under 16 (bare u)) = true
      rw [points_bare (by decide) hu]; rfl
    · show (points 16 true (bare u) || under 16 (bare u)) = true
      rw [row_under (under_bare (by decide) hu)]; simp
  | false =>
    rw [hx, if_neg (by decide), Bool.or_eq_true] at h
    have hcut : ∀ m, anyCut decCut m = anyCut (fun a b => power 101 69 b && (points 10 false a || row 10 a)) m := fun _ => rfl
    have hd : (points 10 false (bare l) || anyCut decCut (bare l)) = true := by
      rcases h with h | h
      · rw [points_bare (by decide) h]; rfl
      · rw [hcut] at h ⊢
        rw [cut_bare (g := fun a => points 10 false a || row 10 a) (by decide) (by decide) dec_g (fun u hu => by
          rw [Bool.or_eq_true] at hu
          show (points 10 false (bare u) || row 10 (bare u)) = true
          rcases hu with hu | hu
          · rw [points_bare (by decide) hu]; rfl
          · rw [row_bare (by decide) u hu]; simp) h]
        simp
    have hxb : head? 120 88 (bare l) = false := by
      cases hb : head? 120 88 (bare l) with
      | false => rfl
      | true =>
        obtain ⟨c, d, t, e⟩ := head_two hb
        rw [e] at hb hd
        have h' : (decide (c = 48) && (decide (d = 120) || decide (d = 88))) = true := hb
        rw [Bool.and_eq_true, Bool.or_eq_true, decide_eq_true_eq, decide_eq_true_eq, decide_eq_true_eq] at h'
        obtain ⟨rfl, hdd⟩ := h'
        obtain ⟨p1, _, p3⟩ := lettered t (d := d) (by rcases hdd with e | e <;> rw [e] <;> decide) (by rcases hdd with e | e <;> rw [e] <;> decide) (by rcases hdd with e | e <;> rw [e] <;> decide) (by rcases hdd with e | e <;> rw [e] <;> decide)
        rw [p1, p3] at hd; cases hd
    unfold broken?
    rw [hxb, if_neg (by decide)]
    exact hd
theorem broken_not_whole {l : List UInt8} (h : broken? l = true) : whole? l = false := by
  cases hw : whole? l with
  | false => rfl
  | true =>
    exfalso
    unfold broken? at h
    cases hx : head? 120 88 l with
    | true =>
      rw [hx, if_pos rfl] at h
      obtain ⟨c, d, t, rfl⟩ := head_two hx
      have h' : (decide (c = 48) && (decide (d = 120) || decide (d = 88))) = true := hx
      rw [Bool.and_eq_true, Bool.or_eq_true, decide_eq_true_eq, decide_eq_true_eq, decide_eq_true_eq] at h'
      obtain ⟨rfl, hdd⟩ := h'
      obtain ⟨_, p2, _⟩ := lettered t (d := d) (by rcases hdd with e | e <;> rw [e] <;> decide) (by rcases hdd with e | e <;> rw [e] <;> decide) (by rcases hdd with e | e <;> rw [e] <;> decide) (by rcases hdd with e | e <;> rw [e] <;> decide)
      have hun : under 16 t = true := by
        unfold whole? at hw
        rw [p2, show (48 :: d :: t).drop 1 = d :: t from rfl, under_letter t (by rcases hdd with e | e <;> rw [e] <;> decide) (by rcases hdd with e | e <;> rw [e] <;> decide), head_apart hx (by decide), head_apart hx (by decide), hx] at hw
        simpa using hw
      have hcut : anyCut hexCut t = true := h
      have e1 : anyCut hexCut t = anyCut (fun a b => power 112 80 b && (points 16 true a || under 16 a)) t := rfl
      rw [e1, cut_none (fun c hc => ⟨(dig16_letter (under_chars hun c hc)).1, (dig16_letter (under_chars hun c hc)).2.1⟩)] at hcut
      cases hcut
    | false =>
      rw [hx, if_neg (by decide), Bool.or_eq_true] at h
      have hrow : row 10 l = true → False := by
        intro hr
        rcases h with h | h
        · have h1 := mOk_dot (show 10 ≤ 16 by decide) l
          have h2 := mOk_row (show 10 ≤ 16 by decide) l
          rw [h, Bool.and_eq_true] at h1
          rw [hr, h1.2, h1.1] at h2
          cases h2
        · have e1 : anyCut decCut l = anyCut (fun a b => power 101 69 b && (points 10 false a || row 10 a)) l := rfl
          rw [e1, cut_none (fun c hc => ⟨(dig10_letter (row_chars l hr c hc)).1, (dig10_letter (row_chars l hr c hc)).2.1⟩)] at h
          cases h
      by_cases hd : (decide (l = [48]) || (row 10 l && !decide (l.head? = some 48)) || (decide (l.head? = some 48) && under 8 (l.drop 1))) = true
      · exact hrow (whole_dec l hd)
      · have hd' : (decide (l = [48]) || (row 10 l && !decide (l.head? = some 48)) || (decide (l.head? = some 48) && under 8 (l.drop 1))) = false := by simpa using hd
        unfold whole? at hw
        rw [hd', hx] at hw
        have hbo : head? 98 66 l = true ∨ head? 111 79 l = true := by
          cases h1 : head? 98 66 l with
          | true => exact .inl rfl
          | false =>
            cases h2 : head? 111 79 l with
            | true => exact .inr rfl
            | false => rw [h1, h2] at hw; cases hw
        have : ∃ d t, l = 48 :: d :: t ∧ (d = 98 ∨ d = 66 ∨ d = 111 ∨ d = 79) := by
          rcases hbo with hb | hb
          · obtain ⟨c, d, t, rfl⟩ := head_two hb
            have h' : (decide (c = 48) && (decide (d = 98) || decide (d = 66))) = true := hb
            rw [Bool.and_eq_true, Bool.or_eq_true, decide_eq_true_eq, decide_eq_true_eq, decide_eq_true_eq] at h'
            exact ⟨d, t, by rw [h'.1], by rcases h'.2 with e | e <;> simp [e]⟩
          · obtain ⟨c, d, t, rfl⟩ := head_two hb
            have h' : (decide (c = 48) && (decide (d = 111) || decide (d = 79))) = true := hb
            rw [Bool.and_eq_true, Bool.or_eq_true, decide_eq_true_eq, decide_eq_true_eq, decide_eq_true_eq] at h'
            exact ⟨d, t, by rw [h'.1], by rcases h'.2 with e | e <;> simp [e]⟩
        obtain ⟨d, t, rfl, hdd⟩ := this
        obtain ⟨p1, _, p3⟩ := lettered t (d := d) (by rcases hdd with e | e | e | e <;> rw [e] <;> decide) (by rcases hdd with e | e | e | e <;> rw [e] <;> decide) (by rcases hdd with e | e | e | e <;> rw [e] <;> decide) (by rcases hdd with e | e | e | e <;> rw [e] <;> decide)
        rw [p1, p3] at h
        rcases h with h | h <;> cases h
/-- the kind of a text with an i behind -/
theorem kind_i (b : List UInt8) : kindOf (b ++ [105]) = if whole? b = true ∨ broken? b = true ∨ row 10 b = true then 5 else 0 := by
  have hm : (105 : UInt8) ∈ b ++ [105] := by simp
  have hw : whole? (b ++ [105]) = false := by
    cases h : whole? (b ++ [105]) with
    | false => rfl
    | true => exact absurd rfl (whole_chars h 105 hm)
  have hb : broken? (b ++ [105]) = false := by
    cases h : broken? (b ++ [105]) with
    | false => rfl
    | true => exact absurd rfl (broken_chars h 105 hm)
  unfold kindOf
  rw [hw, hb]
  simp only [Bool.false_eq_true, if_false, List.dropLast_concat, List.getLast?_concat, true_and]
  cases b with
  | nil => rfl
  | cons c t => simp
theorem kind_cases {l : List UInt8} (h : kindOf l ≠ 0) : (kindOf l = 3 ∧ whole? l = true) ∨ (kindOf l = 4 ∧ broken? l = true) ∨ (kindOf l = 5 ∧ ∃ b, l = b ++ [105] ∧ (whole? b = true ∨ broken? b = true ∨ row 10 b = true)) := by
  unfold kindOf at h ⊢
  cases hw : whole? l with
  | true => exact .inl ⟨rfl, rfl⟩
  | false =>
    cases hb : broken? l with
    | true => exact .inr (.inl ⟨rfl, rfl⟩)
    | false =>
      rw [hw, hb] at h
      simp only [Bool.false_eq_true, if_false] at h ⊢
      by_cases hc : 1 < l.length ∧ l.getLast? = some 105 ∧ (whole? l.dropLast = true ∨ broken? l.dropLast = true ∨ row 10 l.dropLast = true)
      · refine .inr (.inr ⟨by rw [if_pos hc], l.dropLast, ?_, hc.2.2⟩)
        obtain ⟨t, ht⟩ := List.getLast?_eq_some_iff.1 hc.2.1
        rw [ht]; simp
      · rw [if_neg hc] at h; exact absurd rfl h
theorem kind_whole {l : List UInt8} (h : whole? l = true) : kindOf l = 3 := by unfold kindOf; rw [h]; rfl
theorem kind_broken {l : List UInt8} (h : broken? l = true) : kindOf l = 4 := by unfold kindOf; rw [broken_not_whole h, h]; rfl
theorem kind_bare {l : List UInt8} (h : kindOf l ≠ 0) : kindOf (bare l) = kindOf l := by
  rcases kind_cases h with ⟨e, h1⟩ | ⟨e, h1⟩ | ⟨e, b, rfl, h1⟩
  · rw [e]; exact kind_whole (whole_bare h1)
  · rw [e]; exact kind_broken (broken_bare h1)
  · rw [e, bare_app, show bare [105] = [105] from rfl, kind_i, if_pos]
    rcases h1 with h1 | h1 | h1
    · exact .inl (whole_bare h1)
    · exact .inr (.inl (broken_bare h1))
    · exact .inr (.inr (row_bare (by decide) b h1))

/-! an i behind -/
theorem imag_plain (l : List UInt8) : (kindOf l = 3 ∨ kindOf l = 4 → kindOf (l ++ [105]) = 5) ∧ (kindOf l = 5 → kindOf (l ++ [105]) = 0) ∧ (kindOf (l ++ [105]) = 0 ∨ kindOf (l ++ [105]) = 5) := by
  rw [kind_i]
  refine ⟨fun h => ?_, fun h => ?_, by split <;> simp⟩
  · rcases kind_cases (l := l) (by rcases h with h | h <;> rw [h] <;> decide) with ⟨_, h1⟩ | ⟨_, h1⟩ | ⟨e, _⟩
    · rw [if_pos (.inl h1)]
    · rw [if_pos (.inr (.inl h1))]
    · rcases h with h | h <;> (rw [h] at e; cases e)
  · rcases kind_cases (l := l) (by rw [h]; decide) with ⟨e, _⟩ | ⟨e, _⟩ | ⟨_, b, rfl, _⟩
    · rw [h] at e; cases e
    · rw [h] at e; cases e
    · have hm : (105 : UInt8) ∈ b ++ [105] := by simp
      rw [if_neg]
      rintro (h1 | h1 | h1)
      · exact absurd rfl (whole_chars h1 105 hm)
      · exact absurd rfl (broken_chars h1 105 hm)
      · exact (dig10_letter (row_chars _ h1 105 hm)).2.2.2 rfl
end Go.Proofs.YtoffjpgobhcipaaDoor.Num

/-
  Layer 5: the run of a number is the whole of it, whatever stands behind: plain.
-/
namespace Go.Proofs.YtoffjpgobhcipaaDoor.Num

theorem starts_app {l : List UInt8} (m : List UInt8) (h : starts l = true) : starts (l ++ m) = true := by
  match l, h with
  | [c], h =>
    have h' : dig 10 c = true := by
      have : (dig 10 c || (decide (c = 46) && false)) = true := h
      simpa using this
    show (dig 10 c || _) = true
    rw [h']; rfl
  | c :: d :: t, h => exact h
theorem starts_dig {c : UInt8} (t : List UInt8) (h : dig 10 c = true) : starts (c :: t) = true := by
  show (dig 10 c || _) = true
  rw [h]; rfl
theorem starts_row {l : List UInt8} (h : row 10 l = true) : starts l = true := by
  obtain ⟨c, e, hc⟩ := row_head h
  cases l with
  | nil => cases e
  | cons x t =>
    have : x = c := by simpa using e
    rw [this]; exact starts_dig t hc
theorem starts_points {l : List UInt8} (h : points 10 false l = true) : starts l = true := by
  unfold points at h
  rcases point_split l with ⟨e1, _⟩ | ⟨a, b, e1, e2, e3, _⟩
  · rw [e1] at h; cases h
  · rw [e3, e2] at h
    dsimp only at h
    rw [Bool.or_eq_true] at h
    rw [e1]
    rcases h with h | h
    · rw [Bool.and_eq_true] at h
      have h1 : row 10 a = true := by simpa using h.1
      exact starts_app _ (starts_row h1)
    · rw [Bool.and_eq_true] at h
      have : a = [] := by simpa using h.1
      subst this
      obtain ⟨c, e, hc⟩ := row_head h.2
      cases b with
      | nil => cases e
      | cons x t =>
        have : x = c := by simpa using e
        subst this
        show (dig 10 46 || (decide ((46 : UInt8) = 46) && dig 10 x)) = true
        rw [hc]; decide
theorem starts_head {a b : UInt8} {l : List UInt8} (h : head? a b l = true) : starts l = true := by
  match l, h with
  | c :: d :: t, h =>
    have h' : (decide (c = 48) && (decide (d = a) || decide (d = b))) = true := h
    rw [Bool.and_eq_true, decide_eq_true_eq] at h'
    rw [h'.1]; exact starts_dig _ (by decide)
theorem starts_whole {l : List UInt8} (h : whole? l = true) : starts l = true := by
  by_cases hd : (decide (l = [48]) || (row 10 l && !decide (l.head? = some 48)) || (decide (l.head? = some 48) && under 8 (l.drop 1))) = true
  · exact starts_row (whole_dec l hd)
  · have hd' : (decide (l = [48]) || (row 10 l && !decide (l.head? = some 48)) || (decide (l.head? = some 48) && under 8 (l.drop 1))) = false := by simpa using hd
    unfold whole? at h
    rw [hd', Bool.false_or] at h
    cases h1 : head? 98 66 l with
    | true => exact starts_head h1
    | false =>
      cases h2 : head? 111 79 l with
      | true => exact starts_head h2
      | false =>
        rw [h1, h2] at h
        simp only [Bool.false_eq_true, if_false, Bool.and_eq_true] at h
        exact starts_head h.1

def tails (l : List UInt8) : Prop := ∀ c ∈ l, tail? c = true
theorem tail_dig {base : Nat} {c : UInt8} (hb : base ≤ 16) (h : dig base c = true) : tail? c = true := by
  have hv : val c < base := by unfold dig at h; exact of_decide_eq_true h
  unfold val at hv
  unfold tail?
  simp
  split at hv
  · omega
  · split at hv
    · omega
    · split at hv
      · omega
      · omega
theorem tail_bar : tail? 95 = true := by decide
/-- the run's shape: bytes of a run, or those, a letter of a power, and a row with a sign or none -/
def Shape (hex : Bool) (l : List UInt8) : Prop :=
  (tails l ∧ ∀ c ∈ l, power? hex c = false) ∨ ∃ u x z, l = u ++ x :: z ∧ tails u ∧ power? hex x = true ∧ row 10 (unsign z) = true
theorem power_no10 {c : UInt8} (h : dig 10 c = true ∨ c = 95) : power? false c = false := by
  have := dig10_letter h
  show (decide (c = 101) || decide (c = 69)) = false
  rw [decide_eq_false this.1, decide_eq_false this.2.1]; rfl
theorem power_no16 {c : UInt8} (h : dig 16 c = true ∨ c = 95) : power? true c = false := by
  have := dig16_letter h
  show (decide (c = 112) || decide (c = 80)) = false
  rw [decide_eq_false this.1, decide_eq_false this.2.1]; rfl
theorem dig_up {b1 b2 : Nat} {c : UInt8} (h : b1 ≤ b2) (hd : dig b1 c = true) : dig b2 c = true := by
  unfold dig at hd ⊢
  have := of_decide_eq_true hd
  exact decide_eq_true (by omega)
theorem not_hexed {l : List UInt8} (h : row 10 l = true ∨ points 10 false l = true ∨ anyCut decCut l = true) : head? 120 88 l = false := by
  cases hb : head? 120 88 l with
  | false => rfl
  | true =>
    obtain ⟨c, d, t, rfl⟩ := head_two hb
    have h' : (decide (c = 48) && (decide (d = 120) || decide (d = 88))) = true := hb
    rw [Bool.and_eq_true, Bool.or_eq_true, decide_eq_true_eq, decide_eq_true_eq, decide_eq_true_eq] at h'
    obtain ⟨rfl, hdd⟩ := h'
    obtain ⟨p1, p2, p3⟩ := lettered t (d := d) (by rcases hdd with e | e <;> rw [e] <;> decide) (by rcases hdd with e | e <;> rw [e] <;> decide) (by rcases hdd with e | e <;> rw [e] <;> decide) (by rcases hdd with e | e <;> rw [e] <;> decide)
    rw [p1, p2, p3] at h
    rcases h with h | h | h <;> cases h
theorem shape_row {l : List UInt8} (h : row 10 l = true) : Shape (head? 120 88 l) l := by
  rw [not_hexed (.inl h)]
  refine .inl ⟨fun c hc => ?_, fun c hc => power_no10 (row_chars l h c hc)⟩
  rcases row_chars l h c hc with e | e
  · exact tail_dig (by decide) e
  · rw [e]; exact tail_bar
theorem shape_whole {l : List UInt8} (h : whole? l = true) : Shape (head? 120 88 l) l := by
  by_cases hd : (decide (l = [48]) || (row 10 l && !decide (l.head? = some 48)) || (decide (l.head? = some 48) && under 8 (l.drop 1))) = true
  · exact shape_row (whole_dec l hd)
  · have hd' : (decide (l = [48]) || (row 10 l && !decide (l.head? = some 48)) || (decide (l.head? = some 48) && under 8 (l.drop 1))) = false := by simpa using hd
    unfold whole? at h
    rw [hd', Bool.false_or] at h
    have low : ∀ {a b : UInt8} {k : Nat}, k ≤ 10 → tail? a = true → tail? b = true → power? false a = false → power? false b = false → head? a b l = true → head? 120 88 l = false → under k (l.drop 2) = true → Shape (head? 120 88 l) l := by
      intro a b k hk ta tb pa pb h1 hx h2
      rw [hx]
      obtain ⟨c, d, t, rfl⟩ := head_two h1
      have h' : (decide (c = 48) && (decide (d = a) || decide (d = b))) = true := h1
      rw [Bool.and_eq_true, Bool.or_eq_true, decide_eq_true_eq, decide_eq_true_eq, decide_eq_true_eq] at h'
      refine .inl ⟨fun y hy => ?_, fun y hy => ?_⟩
      · rcases List.mem_cons.1 hy with e | hy
        · rw [e, h'.1]; decide
        · rcases List.mem_cons.1 hy with e | hy
          · rw [e]; rcases h'.2 with e | e <;> rw [e] <;> assumption
          · rcases under_chars h2 y hy with e | e
            · exact tail_dig (by omega) e
            · rw [e]; exact tail_bar
      · rcases List.mem_cons.1 hy with e | hy
        · rw [e, h'.1]; decide
        · rcases List.mem_cons.1 hy with e | hy
          · rw [e]; rcases h'.2 with e | e <;> rw [e] <;> assumption
          · rcases under_chars h2 y hy with e | e
            · exact power_no10 (.inl (dig_up hk e))
            · exact power_no10 (.inr e)
    cases h1 : head? 98 66 l with
    | true =>
      rw [h1, if_pos rfl] at h
      exact low (by decide) (by decide) (by decide) (by decide) (by decide) h1 (head_apart h1 (by decide)) h
    | false =>
      rw [h1, if_neg (by decide)] at h
      cases h2 : head? 111 79 l with
      | true =>
        rw [h2, if_pos rfl] at h
        exact low (by decide) (by decide) (by decide) (by decide) (by decide) h2 (head_apart h2 (by decide)) h
      | false =>
        rw [h2, if_neg (by decide), Bool.and_eq_true] at h
        rw [h.1]
        obtain ⟨c, d, t, rfl⟩ := head_two h.1
        have h' : (decide (c = 48) && (decide (d = 120) || decide (d = 88))) = true := h.1
        rw [Bool.and_eq_true, Bool.or_eq_true, decide_eq_true_eq, decide_eq_true_eq, decide_eq_true_eq] at h'
        refine .inl ⟨fun y hy => ?_, fun y hy => ?_⟩
        · rcases List.mem_cons.1 hy with e | hy
          · rw [e, h'.1]; decide
          · rcases List.mem_cons.1 hy with e | hy
            · rw [e]; rcases h'.2 with e | e <;> rw [e] <;> decide
            · rcases under_chars h.2 y hy with e | e
              · exact tail_dig (by decide) e
              · rw [e]; exact tail_bar
        · rcases List.mem_cons.1 hy with e | hy
          · rw [e, h'.1]; decide
          · rcases List.mem_cons.1 hy with e | hy
            · rw [e]; rcases h'.2 with e | e <;> rw [e] <;> decide
            · exact power_no16 (under_chars h.2 y hy)
theorem cut_shape {sm big : UInt8} {g : List UInt8 → Bool} (hg : ∀ u, g u = true → ∀ c ∈ u, c ≠ sm ∧ c ≠ big) {l : List UInt8}
    (h : anyCut (fun a b => power sm big b && g a) l = true) : ∃ u x z, l = u ++ x :: z ∧ (x = sm ∨ x = big) ∧ g u = true ∧ row 10 (unsign z) = true := by
  rcases pow_split sm big l with h1 | ⟨u, x, z, rfl, hx, h1⟩
  · rw [cut_none h1] at h; cases h
  · rw [cut_first hg hx h1, Bool.and_eq_true] at h
    exact ⟨u, x, z, rfl, hx, h.2, h.1⟩
theorem tails_points {base : Nat} (hb : base ≤ 16) {hex : Bool} {u : List UInt8} (h : points base hex u = true) : tails u := by
  intro c hc
  rcases points_chars h c hc with e | e | e
  · exact tail_dig hb e
  · rw [e]; exact tail_bar
  · rw [e]; decide
theorem tails_under {base : Nat} (hb : base ≤ 16) {u : List UInt8} (h : under base u = true) : tails u := by
  intro c hc
  rcases under_chars h c hc with e | e
  · exact tail_dig hb e
  · rw [e]; exact tail_bar
theorem shape_broken {l : List UInt8} (h : broken? l = true) : Shape (head? 120 88 l) l ∧ starts l = true := by
  unfold broken? at h
  cases hx : head? 120 88 l with
  | true =>
    refine ⟨?_, starts_head hx⟩
    rw [hx, if_pos rfl] at h
    obtain ⟨c, d, t, rfl⟩ := head_two hx
    have h' : (decide (c = 48) && (decide (d = 120) || decide (d = 88))) = true := hx
    rw [Bool.and_eq_true, Bool.or_eq_true, decide_eq_true_eq, decide_eq_true_eq, decide_eq_true_eq] at h'
    obtain ⟨u, x, z, e, hxx, hu, hr⟩ := cut_shape (g := fun a => points 16 true a || under 16 a) hex_g h
    have e' : t = u ++ x :: z := e
    refine .inr ⟨c :: d :: u, x, z, by rw [e']; rfl, ?_, by rcases hxx with e | e <;> rw [e] <;> decide, hr⟩
    have hut : tails u := by
      rw [Bool.or_eq_true] at hu
      rcases hu with hu | hu
      · exact tails_points (by decide) hu
      · exact tails_under (by decide) hu
    intro y hy
    rcases List.mem_cons.1 hy with e | hy
    · rw [e, h'.1]; decide
    · rcases List.mem_cons.1 hy with e | hy
      · rw [e]; rcases h'.2 with e | e <;> rw [e] <;> decide
      · exact hut y hy
  | false =>
    rw [hx, if_neg (by decide), Bool.or_eq_true] at h
    rcases h with h | h
    · refine ⟨.inl ⟨tails_points (by decide) h, fun c hc => ?_⟩, starts_points h⟩
      rcases points_chars h c hc with e | e | e
      · exact power_no10 (.inl e)
      · exact power_no10 (.inr e)
      · rw [e]; decide
    · obtain ⟨u, x, z, e, hxx, hu, hr⟩ := cut_shape (g := fun a => points 10 false a || row 10 a) dec_g h
      rw [Bool.or_eq_true] at hu
      refine ⟨.inr ⟨u, x, z, e, ?_, by rcases hxx with e | e <;> rw [e] <;> decide, hr⟩, ?_⟩
      · rcases hu with hu | hu
        · exact tails_points (by decide) hu
        · exact tails_under (by decide) (row_under hu)
      · rw [e]
        rcases hu with hu | hu
        · exact starts_app _ (starts_points hu)
        · exact starts_app _ (starts_row hu)

/-! how far the run of a text goes -/
theorem goes_step {hex : Bool} {t : List UInt8} {j : Nat} {c d : UInt8} (h : t[j + 1]? = some c) (hd : t[j]? = some d) : goesOn hex t (j + 1) = (tail? c || ((decide (c = 43) || decide (c = 45)) && power? hex d)) := by
  simp only [goesOn, h, hd]
theorem goes_same {hex : Bool} {l : List UInt8} (m : List UInt8) {j : Nat} (h : j < l.length) : goesOn hex (l ++ m) j = goesOn hex l j := by
  cases j with
  | zero => simp only [goesOn, List.getElem?_append_left h]
  | succ j => simp only [goesOn, List.getElem?_append_left h, List.getElem?_append_left (show j < l.length by omega)]
theorem runFrom_stop (f : Nat → Bool) (m : Nat) (hm : f m = false) : ∀ n i, (∀ j, i ≤ j → j < m → f j = true) → i ≤ m → m - i < n → runFrom f n i = m
  | 0, i, _, _, h => by omega
  | n + 1, i, hf, hi, h => by
    unfold runFrom
    by_cases e : i = m
    · rw [e, if_neg (by rw [hm]; decide)]
    · rw [if_pos (hf i (Nat.le_refl _) (by omega))]
      exact runFrom_stop f m hm n (i + 1) (fun j h1 h2 => hf j (by omega) h2) (by omega) (by omega)
theorem runFrom_upto (f : Nat → Bool) : ∀ n i j, i ≤ j → j < runFrom f n i → f j = true
  | 0, i, j, h1, h2 => by unfold runFrom at h2; omega
  | n + 1, i, j, h1, h2 => by
    unfold runFrom at h2
    split at h2
    · rename_i hf
      by_cases e : j = i
      · rw [e]; exact hf
      · exact runFrom_upto f n (i + 1) j (by omega) h2
    · omega
/-- a run ends where a byte stands that belongs to none -/
theorem runLen_stop {l : List UInt8} (hl : l ≠ []) (hr : ∀ j, j < l.length → goesOn (head? 120 88 l) l j = true) {y : UInt8} (r : List UInt8) (hy : tail? y = false)
    (hs : y = 43 ∨ y = 45 → ∀ c, l.getLast? = some c → power? (head? 120 88 l) c = false) : runLen (l ++ y :: r) = l.length := by
  have hh : head? 120 88 (l ++ y :: r) = head? 120 88 l := by
    match l, hl with
    | [c], _ =>
      show (decide (c = 48) && (decide (y = 120) || decide (y = 88))) = false
      have h1 : y ≠ 120 := by rintro rfl; revert hy; decide
      have h2 : y ≠ 88 := by rintro rfl; revert hy; decide
      rw [decide_eq_false h1, decide_eq_false h2]; simp
    | c :: d :: t, _ => rfl
  unfold runLen
  rw [hh]
  apply runFrom_stop
  · obtain ⟨k, hk⟩ : ∃ k, l.length = k + 1 := ⟨l.length - 1, by have := List.length_pos_iff.2 hl; omega⟩
    have hkl : k < l.length := by omega
    have e1 : (l ++ y :: r)[k + 1]? = some y := by rw [← hk]; simp
    have e2 : (l ++ y :: r)[k]? = some l[k] := by rw [List.getElem?_append_left hkl, List.getElem?_eq_getElem hkl]
    rw [hk, goes_step e1 e2, hy, Bool.false_or]
    by_cases h43 : y = 43 ∨ y = 45
    · have hlast : l.getLast? = some l[k] := by
        rw [List.getLast?_eq_getElem?, hk, Nat.add_sub_cancel, List.getElem?_eq_getElem hkl]
      rw [hs h43 _ hlast, Bool.and_false]
    · have h1 : y ≠ 43 := fun e => h43 (.inl e)
      have h2 : y ≠ 45 := fun e => h43 (.inr e)
      rw [decide_eq_false h1, decide_eq_false h2]; rfl
  · intro j _ hj
    rw [goes_same _ hj]
    exact hr j hj
  · exact Nat.zero_le _
  · simp
theorem shape_run {hex : Bool} {l : List UInt8} (h : Shape hex l) : (∀ j, j < l.length → goesOn hex l j = true) ∧ ∀ c, l.getLast? = some c → power? hex c = false := by
  rcases h with ⟨h1, h2⟩ | ⟨u, x, z, rfl, h1, h2, h3⟩
  · refine ⟨fun j hj => ?_, fun c hc => h2 c (List.mem_of_getLast? hc)⟩
    exact goes_tail (List.getElem?_eq_getElem hj) (h1 _ (List.getElem_mem hj))
  · have hxt : tail? x = true := by
      cases hex with
      | false =>
        have : (decide (x = 101) || decide (x = 69)) = true := h2
        rw [Bool.or_eq_true, decide_eq_true_eq, decide_eq_true_eq] at this
        rcases this with e | e <;> rw [e] <;> decide
      | true =>
        have : (decide (x = 112) || decide (x = 80)) = true := h2
        rw [Bool.or_eq_true, decide_eq_true_eq, decide_eq_true_eq] at this
        rcases this with e | e <;> rw [e] <;> decide
    have hz : (∃ s t, z = s :: t ∧ (s = 43 ∨ s = 45) ∧ row 10 t = true) ∨ row 10 z = true := by
      cases z with
      | nil => cases h3
      | cons s t =>
        unfold unsign at h3
        rw [hits_cons] at h3
        cases hs : ([43, 45] : List UInt8).contains s with
        | true =>
          rw [hs, if_pos rfl] at h3
          exact .inl ⟨s, t, rfl, by simpa using hs, h3⟩
        | false =>
          rw [hs, if_neg (by decide)] at h3
          exact .inr h3
    have tl : ∀ {t : List UInt8}, row 10 t = true → tails t := fun ht => tails_under (by decide) (row_under ht)
    refine ⟨fun j hj => ?_, fun c hc => ?_⟩
    · have hc := List.getElem?_eq_getElem hj
      by_cases j1 : j < u.length
      · refine goes_tail hc ?_
        rw [List.getElem_append_left j1]
        exact h1 _ (List.getElem_mem j1)
      · by_cases j2 : j = u.length
        · subst j2
          exact goes_tail (c := x) (by simp) hxt
        · obtain ⟨i, rfl⟩ : ∃ i, j = u.length + 1 + i := ⟨j - u.length - 1, by omega⟩
          have hi : i < z.length := by simp at hj; omega
          have hci : (u ++ x :: z)[u.length + 1 + i]? = some z[i] := by
            rw [List.getElem?_append_right (by omega), show u.length + 1 + i - u.length = i + 1 by omega, List.getElem?_cons_succ, List.getElem?_eq_getElem hi]
          rcases hz with ⟨s, t, rfl, hs, ht⟩ | hz
          · cases i with
            | zero =>
              have hx0 : (u ++ x :: s :: t)[u.length]? = some x := by simp
              rw [show u.length + 1 + 0 = u.length + 1 from rfl] at hci ⊢
              rw [goes_step hci hx0]
              have : (decide ((s :: t)[0] = 43) || decide ((s :: t)[0] = 45)) = true := by
                show (decide (s = 43) || decide (s = 45)) = true
                simpa using hs
              rw [this, h2]; simp
            | succ i =>
              refine goes_tail hci ?_
              have hi' : i < t.length := by simpa using hi
              show tail? t[i] = true
              exact tl ht _ (List.getElem_mem hi')
          · exact goes_tail hci (tl hz _ (List.getElem_mem hi))
    · have hlast : ∃ d, dig 10 d = true ∧ (u ++ x :: z).getLast? = some d := by
        rcases hz with ⟨s, t, rfl, hs, ht⟩ | hz
        · obtain ⟨d, e, hd⟩ := row_last ht
          refine ⟨d, hd, ?_⟩
          have htn : t ≠ [] := by rintro rfl; cases ht
          rw [← List.getLast?_eq_getElem?] at e
          rw [List.getLast?_append, List.getLast?_cons, List.getLast?_cons, e]; simp
        · obtain ⟨d, e, hd⟩ := row_last hz
          refine ⟨d, hd, ?_⟩
          rw [← List.getLast?_eq_getElem?] at e
          rw [List.getLast?_append, List.getLast?_cons, e]; simp
      obtain ⟨d, hd, e⟩ := hlast
      rw [e] at hc
      have hdc : d = c := by simpa using hc
      rw [← hdc]
      cases hex with
      | false => exact power_no10 (.inl hd)
      | true => exact power_no16 (.inl (dig_up (by decide) hd))
/-- a number's run is the whole of it, and begins -/
theorem kind_run {l : List UInt8} (h : kindOf l ≠ 0) : starts l = true ∧ (∀ j, j < l.length → goesOn (head? 120 88 l) l j = true) ∧ ∀ c, l.getLast? = some c → power? (head? 120 88 l) c = false := by
  rcases kind_cases h with ⟨_, h1⟩ | ⟨_, h1⟩ | ⟨_, b, rfl, h1⟩
  · exact ⟨starts_whole h1, shape_run (shape_whole h1)⟩
  · exact ⟨(shape_broken h1).2, shape_run (shape_broken h1).1⟩
  · have hb : starts b = true ∧ ∀ j, j < b.length → goesOn (head? 120 88 b) b j = true := by
      rcases h1 with h1 | h1 | h1
      · exact ⟨starts_whole h1, (shape_run (shape_whole h1)).1⟩
      · exact ⟨(shape_broken h1).2, (shape_run (shape_broken h1).1).1⟩
      · exact ⟨starts_row h1, (shape_run (shape_row h1)).1⟩
    have hne : b ≠ [] := by rintro rfl; cases hb.1
    have hh : head? 120 88 (b ++ [105]) = head? 120 88 b := by
      match b, hne with
      | [c], _ =>
        show (decide (c = 48) && (decide ((105 : UInt8) = 120) || decide ((105 : UInt8) = 88))) = false
        cases decide (c = 48) <;> rfl
      | c :: d :: t, _ => rfl
    rw [hh]
    refine ⟨starts_app _ hb.1, fun j hj => ?_, fun c hc => ?_⟩
    · by_cases j1 : j < b.length
      · rw [goes_same _ j1]; exact hb.2 j j1
      · have : j = b.length := by simp at hj; omega
        subst this
        exact goes_tail (c := 105) (by simp) (by decide)
    · rw [List.getLast?_concat] at hc
      have : c = 105 := by simpa using hc.symm
      rw [this]
      cases head? 120 88 b <;> decide
/-- a number is found, whatever byte that belongs to no run stands behind -/
theorem scan_sign {l : List UInt8} (h : kindOf l ≠ 0) {y : UInt8} (r : List UInt8) (hy : tail? y = false) : scanOf kindOf (l ++ y :: r) 0 = (kindOf l, (l.length : Int), 0) := by
  obtain ⟨h1, h2, h3⟩ := kind_run h
  have hne : l ≠ [] := by rintro rfl; cases h1
  have hrun := runLen_stop hne h2 r hy (fun _ => h3)
  have e : (l ++ y :: r).drop (0 : Int).toNat = l ++ y :: r := rfl
  unfold scanOf
  rw [e, starts_app _ h1, hrun, List.take_left, if_pos (by decide), if_neg h]
  simp
/-- what is found is found again, elsewhere -/
theorem scan_again {l : List UInt8} {a : Nat} (h2 : kindOf ((l.drop a).take (runLen (l.drop a))) ≠ 0) (ahead : List UInt8) :
    scanOf kindOf (ahead ++ ((l.drop a).take (runLen (l.drop a)) ++ [32])) ahead.length = (kindOf ((l.drop a).take (runLen (l.drop a))), ((ahead.length + runLen (l.drop a) : Nat) : Int), 0) := by
  have hn := runLen_le (l.drop a)
  obtain ⟨P, hP⟩ : ∃ P, P = (l.drop a).take (runLen (l.drop a)) := ⟨_, rfl⟩
  rw [← hP] at h2 ⊢
  have hlen : P.length = runLen (l.drop a) := by rw [hP, List.length_take]; omega
  obtain ⟨k1, k2, k3⟩ := kind_run h2
  have hne : P ≠ [] := by rintro rfl; cases k1
  have hrun := runLen_stop hne k2 [] (y := 32) (by decide) (fun e => by rcases e with e | e <;> exact absurd e (by decide))
  have e : (ahead ++ (P ++ [32])).drop ((ahead.length : Int)).toNat = P ++ [32] := by
    rw [show ((ahead.length : Int)).toNat = ahead.length by omega, List.drop_left]
  unfold scanOf
  rw [e, starts_app _ k1, hrun, List.take_left, if_pos (by simp), if_neg h2, show ((ahead.length : Int)).toNat = ahead.length by omega, hlen]
end Go.Proofs.YtoffjpgobhcipaaDoor.Num
