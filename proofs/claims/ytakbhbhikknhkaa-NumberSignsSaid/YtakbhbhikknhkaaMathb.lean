/-
  Layer 5: what holds of numbers without their underscores, with an i behind, elsewhere, with a sign behind: plain.
-/
import Derived.Test.YtakbhbhikknhkaaMath
namespace Go.Proofs.Ytakbhbhikknhkaa

/-! without underscores -/
def bare (l : List UInt8) : List UInt8 := l.filter fun x => decide (x ≠ 95)
theorem bare_cons {c : UInt8} (t : List UInt8) (h : c ≠ 95) : bare (c :: t) = c :: bare t := by
  unfold bare; rw [List.filter_cons_of_pos (by simpa using h)]
theorem bare_bar (t : List UInt8) : bare (95 :: t) = bare t := by
  unfold bare; rw [List.filter_cons_of_neg (by simp)]
theorem bare_app (a b : List UInt8) : bare (a ++ b) = bare a ++ bare b := List.filter_append ..
theorem mem_bare {c : UInt8} {l : List UInt8} (h : c ∈ bare l) : c ∈ l := (List.mem_filter.1 h).1
theorem dig_no_bar {base : Nat} {c : UInt8} (hb : base ≤ 16) (h : dig base c = true) : c ≠ 95 := by
  intro e; rw [e, dig_bar hb] at h; cases h
theorem row_bare {base : Nat} (hb : base ≤ 16) : ∀ l : List UInt8, row base l = true → row base (bare l) = true
  | [], h => by cases h
  | [c], h => by
    have h' : dig base c = true := h
    rw [bare_cons [] (dig_no_bar hb h')]; exact h
  | c :: d :: t, h => by
    have h' : (dig base c && (if d = 95 then row base t else row base (d :: t))) = true := h
    rw [Bool.and_eq_true] at h'
    rw [bare_cons _ (dig_no_bar hb h'.1)]
    have key : row base (bare (d :: t)) = true := by
      by_cases hd : d = 95
      · rw [if_pos hd] at h'
        rw [hd, bare_bar]; exact row_bare hb t h'.2
      · rw [if_neg hd] at h'
        exact row_bare hb (d :: t) h'.2
    cases hk : bare (d :: t) with
    | nil => rw [hk] at key; cases key
    | cons x y =>
      rw [hk] at key
      have hx : x ≠ 95 := by
        obtain ⟨z, e, h2⟩ := row_head key
        simp at e
        rw [e]; exact dig_no_bar hb h2
      show (dig base c && (if x = 95 then row base y else row base (x :: y))) = true
      rw [if_neg hx, h'.1, key]; rfl
theorem under_bare {base : Nat} (hb : base ≤ 16) {l : List UInt8} (h : under base l = true) : row base (bare l) = true := by
  unfold under at h
  rw [Bool.or_eq_true] at h
  rcases h with h | h
  · exact row_bare hb l h
  · rw [Bool.and_eq_true] at h
    cases l with
    | nil => cases h.2
    | cons c t =>
      have hc : c = 95 := by simpa using h.1
      rw [hc, bare_bar]; exact row_bare hb t h.2
theorem row_under {base : Nat} {l : List UInt8} (h : row base l = true) : under base l = true := by unfold under; rw [h]; rfl
theorem head_bare {a b : UInt8} {t : List UInt8} {c d : UInt8} (h : head? a b (c :: d :: t) = true) (ha : a ≠ 95) (hb : b ≠ 95) : bare (c :: d :: t) = c :: d :: bare t ∧ head? a b (c :: d :: bare t) = true := by
  have h' : (decide (c = 48) && (decide (d = a) || decide (d = b))) = true := h
  rw [Bool.and_eq_true, Bool.or_eq_true, decide_eq_true_eq, decide_eq_true_eq, decide_eq_true_eq] at h'
  have hc : c ≠ 95 := by rw [h'.1]; decide
  have hd : d ≠ 95 := by rcases h'.2 with e | e <;> rw [e] <;> assumption
  exact ⟨by rw [bare_cons _ hc, bare_cons _ hd], h⟩
theorem head_two {a b : UInt8} {l : List UInt8} (h : head? a b l = true) : ∃ c d t, l = c :: d :: t := by
  match l, h with
  | c :: d :: t, _ => exact ⟨c, d, t, rfl⟩
theorem head_apart {a b a' b' : UInt8} {l : List UInt8} (h : head? a b l = true) (h1 : a ≠ a' ∧ a ≠ b' ∧ b ≠ a' ∧ b ≠ b') : head? a' b' l = false := by
  match l, h with
  | c :: d :: t, h =>
    have h' : (decide (c = 48) && (decide (d = a) || decide (d = b))) = true := h
    rw [Bool.and_eq_true, Bool.or_eq_true, decide_eq_true_eq, decide_eq_true_eq, decide_eq_true_eq] at h'
    show (decide (c = 48) && (decide (d = a') || decide (d = b'))) = false
    rcases h'.2 with e | e <;> subst e
    · rw [decide_eq_false h1.1, decide_eq_false h1.2.1]; simp
    · rw [decide_eq_false h1.2.2.1, decide_eq_false h1.2.2.2]; simp
theorem whole_bare {l : List UInt8} (h : whole? l = true) : whole? (bare l) = true := by
  by_cases hd : (decide (l = [48]) || (row 10 l && !decide (l.head? = some 48)) || (decide (l.head? = some 48) && under 8 (l.drop 1))) = true
  · unfold whole?
    have goal : (decide (bare l = [48]) || (row 10 (bare l) && !decide ((bare l).head? = some 48)) || (decide ((bare l).head? = some 48) && under 8 ((bare l).drop 1))) = true := by
      rw [Bool.or_eq_true, Bool.or_eq_true] at hd
      rcases hd with (hd | hd) | hd
      · have : l = [48] := by simpa using hd
        rw [this]; decide
      · rw [Bool.and_eq_true] at hd
        obtain ⟨c, e, hc⟩ := row_head hd.1
        cases l with
        | nil => cases e
        | cons x t =>
          have hx : x = c := by simpa using e
          subst hx
          have hb : bare (x :: t) = x :: bare t := bare_cons t (dig_no_bar (by decide) hc)
          have h1 := row_bare (by decide) _ hd.1
          rw [hb] at h1 ⊢
          rw [h1]
          have h2 : decide ((x :: bare t).head? = some 48) = false := by simpa using hd.2
          rw [h2]; simp
      · rw [Bool.and_eq_true] at hd
        cases l with
        | nil => simp at hd
        | cons x t =>
          have hx : x = 48 := by simpa using hd.1
          subst hx
          rw [bare_cons t (by decide)]
          have : under 8 ((48 :: bare t).drop 1) = true := row_under (under_bare (by decide) hd.2)
          rw [this]; simp
    rw [goal]; rfl
  · have hd' : (decide (l = [48]) || (row 10 l && !decide (l.head? = some 48)) || (decide (l.head? = some 48) && under 8 (l.drop 1))) = false := by simpa using hd
    unfold whole? at h
    rw [hd', Bool.false_or] at h
    cases h1 : head? 98 66 l with
    | true =>
      rw [h1, if_pos rfl] at h
      obtain ⟨c, d, t, rfl⟩ := head_two h1
      obtain ⟨e, e2⟩ := head_bare h1 (by decide) (by decide)
      unfold whole?
      rw [e, e2, if_pos rfl]
      have : under 2 ((c :: d :: bare t).drop 2) = true := row_under (under_bare (by decide) h)
      rw [this]; simp
    | false =>
      rw [h1, if_neg (by decide)] at h
      cases h2 : head? 111 79 l with
      | true =>
        rw [h2, if_pos rfl] at h
        obtain ⟨c, d, t, rfl⟩ := head_two h2
        obtain ⟨e, e2⟩ := head_bare h2 (by decide) (by decide)
        unfold whole?
        rw [e, e2, head_apart e2 (by decide), if_neg (by decide), if_pos rfl]
        have : under 8 ((c :: d :: bare t).drop 2) = true := row_under (under_bare (by decide) h)
        rw [this]; simp
      | false =>
        rw [h2, if_neg (by decide), Bool.and_eq_true] at h
        obtain ⟨c, d, t, rfl⟩ := head_two h.1
        obtain ⟨e, e2⟩ := head_bare h.1 (by decide) (by decide)
        unfold whole?
        rw [e, e2, head_apart e2 (by decide), if_neg (by decide), head_apart e2 (by decide), if_neg (by decide)]
        have : under 16 ((c :: d :: bare t).drop 2) = true := row_under (under_bare (by decide) h.2)
        rw [this]; simp
theorem points_bare {base : Nat} (hb : base ≤ 16) {hex : Bool} {l : List UInt8} (h : points base hex l = true) : points base hex (bare l) = true := by
  unfold points at h
  rcases point_split l with ⟨e1, _⟩ | ⟨a, b, e1, e2, e3, e4⟩
  · rw [e1] at h; cases h
  · rw [e3, e2] at h
    dsimp only at h
    have hl : bare l = bare a ++ 46 :: bare b := by rw [e1, bare_app, bare_cons b (by decide)]
    have ha4 : ∀ c ∈ bare a, c ≠ 46 := fun c hc => e4 c (mem_bare hc)
    rcases point_split (bare l) with ⟨_, f2⟩ | ⟨a', b', f1, f2, f3, f4⟩
    · exact absurd rfl (f2 46 (by rw [hl]; simp))
    · have hab : a' = bare a ∧ b' = bare b := by
        rw [hl] at f1
        have key : ∀ (p q p' q' : List UInt8), p ++ 46 :: q = p' ++ 46 :: q' → (∀ c ∈ p, c ≠ 46) → (∀ c ∈ p', c ≠ 46) → p' = p ∧ q' = q := by
          intro p
          induction p with
          | nil =>
            intro q p' q' e h1 h2
            cases p' with
            | nil => simp at e; exact ⟨rfl, e.symm⟩
            | cons c t => simp at e; exact absurd e.1.symm (h2 c (List.mem_cons_self ..))
          | cons x t ih =>
            intro q p' q' e h1 h2
            cases p' with
            | nil => simp at e; exact absurd e.1 (h1 x (List.mem_cons_self ..))
            | cons c t' =>
              simp at e
              obtain ⟨i1, i2⟩ := ih q t' q' e.2 (fun c hc => h1 c (List.mem_cons_of_mem _ hc)) (fun c hc => h2 c (List.mem_cons_of_mem _ hc))
              exact ⟨by rw [i1, e.1], i2⟩
        exact key _ _ _ _ f1 ha4 f4
      unfold points
      rw [f3, f2]
      dsimp only
      rw [hab.1, hab.2]
      have hbb : (b.isEmpty || row base b) = true → ((bare b).isEmpty || row base (bare b)) = true := by
        intro h
        rw [Bool.or_eq_true] at h
        rcases h with h | h
        · have : b = [] := by simpa using h
          rw [this]; rfl
        · rw [row_bare hb b h]; simp
      rw [Bool.or_eq_true] at h
      rcases h with h | h
      · rw [Bool.and_eq_true] at h
        have h1 := h.1
        rw [Bool.or_eq_true] at h1
        have h2 : (row base (bare a) || (hex && under base (bare a))) = true := by
          rcases h1 with h1 | h1
          · rw [row_bare hb a h1]; rfl
          · rw [Bool.and_eq_true] at h1
            rw [under_bare hb h1.2]; rfl
        rw [h2, hbb h.2]; rfl
      · rw [Bool.and_eq_true] at h
        have : a = [] := by simpa using h.1
        rw [this, row_bare hb b h.2]
        simp [bare]
theorem unsign_bare {z : List UInt8} (h : row 10 (unsign z) = true) : row 10 (unsign (bare z)) = true := by
  cases z with
  | nil => cases h
  | cons d t =>
    unfold unsign at h
    rw [hits_cons] at h
    cases hd : ([43, 45] : List UInt8).contains d with
    | true =>
      rw [hd, if_pos rfl] at h
      have hd95 : d ≠ 95 := by rintro rfl; revert hd; decide
      rw [bare_cons t hd95]
      unfold unsign
      rw [hits_cons, hd, if_pos rfl]
      exact row_bare (by decide) _ h
    | false =>
      rw [hd, if_neg (by decide)] at h
      obtain ⟨c, e, hc⟩ := row_head h
      have hdc : d = c := by simpa using e
      subst hdc
      have h1 := row_bare (by decide) _ h
      rw [bare_cons t (dig_no_bar (by decide) hc)] at h1 ⊢
      unfold unsign
      rw [hits_cons, hd, if_neg (by decide)]
      exact h1
theorem cut_bare {sm big : UInt8} {g : List UInt8 → Bool} (hs1 : sm ≠ 95) (hs2 : big ≠ 95) (hg : ∀ u, g u = true → ∀ c ∈ u, c ≠ sm ∧ c ≠ big) (hgb : ∀ u, g u = true → g (bare u) = true) {l : List UInt8}
    (h : anyCut (fun a b => power sm big b && g a) l = true) : anyCut (fun a b => power sm big b && g a) (bare l) = true := by
  rcases pow_split sm big l with h1 | ⟨u, x, z, rfl, hx, h1⟩
  · rw [cut_none h1] at h; cases h
  · rw [cut_first hg hx h1, Bool.and_eq_true] at h
    have hx95 : x ≠ 95 := by rcases hx with e | e <;> rw [e] <;> assumption
    rw [bare_app, bare_cons z hx95, cut_first hg hx (fun c hc => h1 c (mem_bare hc)), unsign_bare h.1, hgb u h.2]; rfl
theorem broken_bare {l : List UInt8} (h : broken? l = true) : broken? (bare l) = true := by
  unfold broken? at h
  cases hx : head? 120 88 l with
  | true =>
    rw [hx, if_pos rfl] at h
    obtain ⟨c, d, t, rfl⟩ := head_two hx
    obtain ⟨e, e2⟩ := head_bare hx (by decide) (by decide)
    unfold broken?
    rw [e, e2, if_pos rfl]
    refine cut_bare (g := fun a => points 16 true a || under 16 a) (by decide) (by decide) hex_g (fun u hu => ?_) h
    rw [Bool.or_eq_true] at hu
    rcases hu with hu | hu
    · show (points 16 true (bare u) || under 16 (bare u)) = true
      rw [points_bare (by decide) hu]; rfl
    · show (points 16 true (bare u) || under 16 (bare u)) = true
      rw [row_under (under_bare (by decide) hu)]; simp
  | false =>
    rw [hx, if_neg (by decide), Bool.or_eq_true] at h
    have hcut : ∀ m, anyCut decCut m = anyCut (fun a b => power 101 69 b && (points 10 false a || row 10 a)) m := fun _ => rfl
    have hd : (points 10 false (bare l) || anyCut decCut (bare l)) = true := by
      rcases h with h | h
      · rw [points_bare (by decide) h]; rfl
      · rw [hcut] at h ⊢
        rw [cut_bare (g := fun a => points 10 false a || row 10 a) (by decide) (by decide) dec_g (fun u hu => by
          rw [Bool.or_eq_true] at hu
          show (points 10 false (bare u) || row 10 (bare u)) = true
          rcases hu with hu | hu
          · rw [points_bare (by decide) hu]; rfl
          · rw [row_bare (by decide) u hu]; simp) h]
        simp
    have hxb : head? 120 88 (bare l) = false := by
      cases hb : head? 120 88 (bare l) with
      | false => rfl
      | true =>
        obtain ⟨c, d, t, e⟩ := head_two hb
        rw [e] at hb hd
        have h' : (decide (c = 48) && (decide (d = 120) || decide (d = 88))) = true := hb
        rw [Bool.and_eq_true, Bool.or_eq_true, decide_eq_true_eq, decide_eq_true_eq, decide_eq_true_eq] at h'
        obtain ⟨rfl, hdd⟩ := h'
        obtain ⟨p1, _, p3⟩ := lettered t (d := d) (by rcases hdd with e | e <;> rw [e] <;> decide) (by rcases hdd with e | e <;> rw [e] <;> decide) (by rcases hdd with e | e <;> rw [e] <;> decide) (by rcases hdd with e | e <;> rw [e] <;> decide)
        rw [p1, p3] at hd; cases hd
    unfold broken?
    rw [hxb, if_neg (by decide)]
    exact hd
theorem broken_not_whole {l : List UInt8} (h : broken? l = true) : whole? l = false := by
  cases hw : whole? l with
  | false => rfl
  | true =>
    exfalso
    unfold broken? at h
    cases hx : head? 120 88 l with
    | true =>
      rw [hx, if_pos rfl] at h
      obtain ⟨c, d, t, rfl⟩ := head_two hx
      have h' : (decide (c = 48) && (decide (d = 120) || decide (d = 88))) = true := hx
      rw [Bool.and_eq_true, Bool.or_eq_true, decide_eq_true_eq, decide_eq_true_eq, decide_eq_true_eq] at h'
      obtain ⟨rfl, hdd⟩ := h'
      obtain ⟨_, p2, _⟩ := lettered t (d := d) (by rcases hdd with e | e <;> rw [e] <;> decide) (by rcases hdd with e | e <;> rw [e] <;> decide) (by rcases hdd with e | e <;> rw [e] <;> decide) (by rcases hdd with e | e <;> rw [e] <;> decide)
      have hun : under 16 t = true := by
        unfold whole? at hw
        rw [p2, show (48 :: d :: t).drop 1 = d :: t from rfl, under_letter t (by rcases hdd with e | e <;> rw [e] <;> decide) (by rcases hdd with e | e <;> rw [e] <;> decide), head_apart hx (by decide), head_apart hx (by decide), hx] at hw
        simpa using hw
      have hcut : anyCut hexCut t = true := h
      have e1 : anyCut hexCut t = anyCut (fun a b => power 112 80 b && (points 16 true a || under 16 a)) t := rfl
      rw [e1, cut_none (fun c hc => ⟨(dig16_letter (under_chars hun c hc)).1, (dig16_letter (under_chars hun c hc)).2.1⟩)] at hcut
      cases hcut
    | false =>
      rw [hx, if_neg (by decide), Bool.or_eq_true] at h
      have hrow : row 10 l = true → False := by
        intro hr
        rcases h with h | h
        · have h1 := mOk_dot (show 10 ≤ 16 by decide) l
          have h2 := mOk_row (show 10 ≤ 16 by decide) l
          rw [h, Bool.and_eq_true] at h1
          rw [hr, h1.2, h1.1] at h2
          cases h2
        · have e1 : anyCut decCut l = anyCut (fun a b => power 101 69 b && (points 10 false a || row 10 a)) l := rfl
          rw [e1, cut_none (fun c hc => ⟨(dig10_letter (row_chars l hr c hc)).1, (dig10_letter (row_chars l hr c hc)).2.1⟩)] at h
          cases h
      by_cases hd : (decide (l = [48]) || (row 10 l && !decide (l.head? = some 48)) || (decide (l.head? = some 48) && under 8 (l.drop 1))) = true
      · exact hrow (whole_dec l hd)
      · have hd' : (decide (l = [48]) || (row 10 l && !decide (l.head? = some 48)) || (decide (l.head? = some 48) && under 8 (l.drop 1))) = false := by simpa using hd
        unfold whole? at hw
        rw [hd', hx] at hw
        have hbo : head? 98 66 l = true ∨ head? 111 79 l = true := by
          cases h1 : head? 98 66 l with
          | true => exact .inl rfl
          | false =>
            cases h2 : head? 111 79 l with
            | true => exact .inr rfl
            | false => rw [h1, h2] at hw; cases hw
        have : ∃ d t, l = 48 :: d :: t ∧ (d = 98 ∨ d = 66 ∨ d = 111 ∨ d = 79) := by
          rcases hbo with hb | hb
          · obtain ⟨c, d, t, rfl⟩ := head_two hb
            have h' : (decide (c = 48) && (decide (d = 98) || decide (d = 66))) = true := hb
            rw [Bool.and_eq_true, Bool.or_eq_true, decide_eq_true_eq, decide_eq_true_eq, decide_eq_true_eq] at h'
            exact ⟨d, t, by rw [h'.1], by rcases h'.2 with e | e <;> simp [e]⟩
          · obtain ⟨c, d, t, rfl⟩ := head_two hb
            have h' : (decide (c = 48) && (decide (d = 111) || decide (d = 79))) = true := hb
            rw [Bool.and_eq_true, Bool.or_eq_true, decide_eq_true_eq, decide_eq_true_eq, decide_eq_true_eq] at h'
            exact ⟨d, t, by rw [h'.1], by rcases h'.2 with e | e <;> simp [e]⟩
        obtain ⟨d, t, rfl, hdd⟩ := this
        obtain ⟨p1, _, p3⟩ := lettered t (d := d) (by rcases hdd with e | e | e | e <;> rw [e] <;> decide) (by rcases hdd with e | e | e | e <;> rw [e] <;> decide) (by rcases hdd with e | e | e | e <;> rw [e] <;> decide) (by rcases hdd with e | e | e | e <;> rw [e] <;> decide)
        rw [p1, p3] at h
        rcases h with h | h <;> cases h
/-- the kind of a text with an i behind -/
theorem kind_i (b : List UInt8) : kindOf (b ++ [105]) = if whole? b = true ∨ broken? b = true ∨ row 10 b = true then 5 else 0 := by
  have hm : (105 : UInt8) ∈ b ++ [105] := by simp
  have hw : whole? (b ++ [105]) = false := by
    cases h : whole? (b ++ [105]) with
    | false => rfl
    | true => exact absurd rfl (whole_chars h 105 hm)
  have hb : broken? (b ++ [105]) = false := by
    cases h : broken? (b ++ [105]) with
    | false => rfl
    | true => exact absurd rfl (broken_chars h 105 hm)
  unfold kindOf
  rw [hw, hb]
  simp only [Bool.false_eq_true, if_false, List.dropLast_concat, List.getLast?_concat, true_and]
  cases b with
  | nil => rfl
  | cons c t => simp
theorem kind_cases {l : List UInt8} (h : kindOf l ≠ 0) : (kindOf l = 3 ∧ whole? l = true) ∨ (kindOf l = 4 ∧ broken? l = true) ∨ (kindOf l = 5 ∧ ∃ b, l = b ++ [105] ∧ (whole? b = true ∨ broken? b = true ∨ row 10 b = true)) := by
  unfold kindOf at h ⊢
  cases hw : whole? l with
  | true => exact .inl ⟨rfl, rfl⟩
  | false =>
    cases hb : broken? l with
    | true => exact .inr (.inl ⟨rfl, rfl⟩)
    | false =>
      rw [hw, hb] at h
      simp only [Bool.false_eq_true, if_false] at h ⊢
      by_cases hc : 1 < l.length ∧ l.getLast? = some 105 ∧ (whole? l.dropLast = true ∨ broken? l.dropLast = true ∨ row 10 l.dropLast = true)
      · refine .inr (.inr ⟨by rw [if_pos hc], l.dropLast, ?_, hc.2.2⟩)
        obtain ⟨t, ht⟩ := List.getLast?_eq_some_iff.1 hc.2.1
        rw [ht]; simp
      · rw [if_neg hc] at h; exact absurd rfl h
theorem kind_whole {l : List UInt8} (h : whole? l = true) : kindOf l = 3 := by unfold kindOf; rw [h]; rfl
theorem kind_broken {l : List UInt8} (h : broken? l = true) : kindOf l = 4 := by unfold kindOf; rw [broken_not_whole h, h]; rfl
theorem kind_bare {l : List UInt8} (h : kindOf l ≠ 0) : kindOf (bare l) = kindOf l := by
  rcases kind_cases h with ⟨e, h1⟩ | ⟨e, h1⟩ | ⟨e, b, rfl, h1⟩
  · rw [e]; exact kind_whole (whole_bare h1)
  · rw [e]; exact kind_broken (broken_bare h1)
  · rw [e, bare_app, show bare [105] = [105] from rfl, kind_i, if_pos]
    rcases h1 with h1 | h1 | h1
    · exact .inl (whole_bare h1)
    · exact .inr (.inl (broken_bare h1))
    · exact .inr (.inr (row_bare (by decide) b h1))

/-! an i behind -/
theorem imag_plain (l : List UInt8) : (kindOf l = 3 ∨ kindOf l = 4 → kindOf (l ++ [105]) = 5) ∧ (kindOf l = 5 → kindOf (l ++ [105]) = 0) ∧ (kindOf (l ++ [105]) = 0 ∨ kindOf (l ++ [105]) = 5) := by
  rw [kind_i]
  refine ⟨fun h => ?_, fun h => ?_, by split <;> simp⟩
  · rcases kind_cases (l := l) (by rcases h with h | h <;> rw [h] <;> decide) with ⟨_, h1⟩ | ⟨_, h1⟩ | ⟨e, _⟩
    · rw [if_pos (.inl h1)]
    · rw [if_pos (.inr (.inl h1))]
    · rcases h with h | h <;> (rw [h] at e; cases e)
  · rcases kind_cases (l := l) (by rw [h]; decide) with ⟨e, _⟩ | ⟨e, _⟩ | ⟨_, b, rfl, _⟩
    · rw [h] at e; cases e
    · rw [h] at e; cases e
    · have hm : (105 : UInt8) ∈ b ++ [105] := by simp
      rw [if_neg]
      rintro (h1 | h1 | h1)
      · exact absurd rfl (whole_chars h1 105 hm)
      · exact absurd rfl (broken_chars h1 105 hm)
      · exact (dig10_letter (row_chars _ h1 105 hm)).2.2.2 rfl
end Go.Proofs.Ytakbhbhikknhkaa
