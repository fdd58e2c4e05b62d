/-
  Layer 8, plain: the tokens of lexemes: their order; what blanks and comments are good for (for the laws of semi).
-/
import Derived.Test.YtbkmlldhjchhjaaGreatTb
import Derived.Test.YtbkmlldhjchhjaaGreatTd
import Derived.Test.YtbkmlldhjchhjaaGreatTg
namespace Go.Proofs.YtbkmlldhjchhjaaGreat

theorem sems_some (l : List UInt8) (z : Nat) : ∀ T, sems l (some z) T = (9, z, z) :: sems l none T ∨ (sems l (some z) T = sems l none T ∧ T ≠ [])
  | [] => .inl rfl
  | x :: T => by
    unfold sems
    by_cases h1 : silentB x.1 = true
    · rw [if_pos h1, if_pos h1]
      by_cases h2 : (textAt l x).contains 10 = true
      · rw [if_pos h2, if_pos h2]; exact .inl rfl
      · rw [if_neg h2, if_neg h2]
        rcases sems_some l z T with h | ⟨h, _⟩
        · exact .inl h
        · exact .inr ⟨h, by simp⟩
    · rw [if_neg h1, if_neg h1]; exact .inr ⟨rfl, by simp⟩
theorem sems_silent (l : List UInt8) (x : Nat × Nat × Nat) (T : List (Nat × Nat × Nat)) (h : silentB x.1 = true) : sems l none (x :: T) = sems l none T := by
  conv => lhs; unfold sems
  rw [if_pos h]
  split <;> rfl
theorem sems_loud (l : List UInt8) (o : Option Nat) (x : Nat × Nat × Nat) (T : List (Nat × Nat × Nat)) (h : silentB x.1 = false) : sems l o (x :: T) = x :: sems l (if endsB x.1 (textAt l x) = true then some x.2.2 else none) T := by
  conv => lhs; unfold sems
  rw [if_neg (by rw [h]; decide)]
/-- the first token is a lexeme -/
theorem sems_first (l : List UInt8) : ∀ T y S, sems l none T = y :: S → y ∈ T
  | [], y, S, h => by cases h
  | x :: T, y, S, h => by
    cases hs : silentB x.1 with
    | true => rw [sems_silent l x T hs] at h; exact List.mem_cons_of_mem _ (sems_first l T y S h)
    | false => rw [sems_loud l none x T hs] at h; rw [← (List.cons.inj h).1]; exact List.mem_cons_self ..
/-- places in order -/
def Ord (n : Nat) : Nat → List (Nat × Nat × Nat) → Prop
  | _, [] => True
  | p, x :: T => p ≤ x.2.1 ∧ x.2.1 ≤ x.2.2 ∧ x.2.2 ≤ n ∧ Ord n x.2.2 T
theorem tiles_ord {l : List UInt8} : ∀ (T : List (Nat × Nat × Nat)) (p : Nat), Tiles l p T → Ord l.length p T
  | [], _, _ => trivial
  | x :: T, p, h => by
    obtain ⟨rfl, _, h1, h2, _, h4⟩ := h
    exact ⟨Nat.le_refl _, by show p ≤ (lexV l p).2; omega, h2, tiles_ord T _ h4⟩
theorem sems_ord {l : List UInt8} : ∀ (T : List (Nat × Nat × Nat)) (p q : Nat) (o : Option Nat), Tiles l p T → q ≤ p → p ≤ l.length → (∀ z, o = some z → z = q) → Ord l.length q (sems l o T)
  | [], p, q, o, _, hq, hp, ho => by
    cases o with
    | none => exact trivial
    | some z =>
      have := ho z rfl
      subst this
      exact ⟨Nat.le_refl _, Nat.le_refl _, by show z ≤ _; omega, trivial⟩
  | x :: T, p, q, o, h, hq, hp, ho => by
    obtain ⟨rfl, _, h1, h2, _, h4⟩ := h
    unfold sems
    split
    · split
      · cases o with
        | none => exact sems_ord T _ q none h4 (by omega) h2 (fun z h => by cases h)
        | some z =>
          have := ho z rfl
          subst this
          exact ⟨Nat.le_refl _, Nat.le_refl _, by show z ≤ _; omega, sems_ord T _ z none h4 (by omega) h2 (fun z h => by cases h)⟩
      · exact sems_ord T _ q o h4 (by omega) h2 ho
    · refine ⟨hq, by show p ≤ (lexV l p).2; omega, h2, sems_ord T _ _ _ h4 (Nat.le_refl _) h2 (fun z h => ?_)⟩
      split at h
      · injection h with h; exact h.symm
      · cases h
theorem ord_drop {n : Nat} : ∀ (T : List (Nat × Nat × Nat)) (p k : Nat) (x : Nat × Nat × Nat), Ord n p T → T[k]? = some x → (k = 0 → p ≤ x.2.1) ∧ x.2.1 ≤ x.2.2 ∧ x.2.2 ≤ n ∧ Ord n x.2.2 (T.drop (k + 1))
  | [], _, _, _, _, hx => by simp at hx
  | y :: T, p, 0, x, h, hx => by
    simp at hx; subst hx
    exact ⟨fun _ => h.1, h.2.1, h.2.2.1, h.2.2.2⟩
  | y :: T, p, k + 1, x, h, hx => by
    obtain ⟨h1, h2, h3, h4⟩ := h
    obtain ⟨_, g2, g3, g4⟩ := ord_drop T _ k x h4 (by simpa using hx)
    exact ⟨fun h => absurd h (by omega), g2, g3, g4⟩
/-- a token's kind and text; the text of a semicolon is ; -/
def tx (x : Nat × List UInt8) : Nat × List UInt8 := (x.1, if x.1 = 9 then [59] else x.2)
def semiW (o : Bool) : List (Nat × List UInt8) := if o = true then [(9, [59])] else []
def outW : Bool → List (Nat × List UInt8) → List (Nat × List UInt8)
  | o, [] => semiW o
  | o, x :: W => if silentB x.1 = true then (if x.2.contains 10 = true then semiW o ++ outW false W else outW o W) else tx x :: outW (endsB x.1 x.2) W
def toksT (l : List UInt8) (S : List (Nat × Nat × Nat)) : List (Nat × List UInt8) := S.map fun x => tx (x.1, textAt l x)
theorem toks_out (l : List UInt8) : ∀ T o, toksT l (sems l o T) = outW o.isSome (texts l T)
  | [], none => rfl
  | [], some z => rfl
  | x :: T, o => by
    have e : texts l (x :: T) = (x.1, textAt l x) :: texts l T := rfl
    rw [e]
    unfold sems outW
    dsimp only
    by_cases h1 : silentB x.1 = true
    · rw [if_pos h1, if_pos h1]
      by_cases h2 : (textAt l x).contains 10 = true
      · rw [if_pos h2, if_pos h2]
        have ih := toks_out l T none
        cases o with
        | none => exact ih
        | some z =>
          show tx (9, textAt l (9, z, z)) :: toksT l (sems l none T) = _
          rw [ih]; rfl
      · rw [if_neg h2, if_neg h2]; exact toks_out l T o
    · rw [if_neg h1, if_neg h1]
      have ih := toks_out l T (if endsB x.1 (textAt l x) = true then some x.2.2 else none)
      show tx (x.1, textAt l x) :: toksT l (sems l _ T) = _
      rw [ih]
      congr 2
      cases endsB x.1 (textAt l x) <;> rfl
def LexO (t : List UInt8) (o : Bool) (V : List (Nat × List UInt8)) : Prop := ∃ W, Lexes W t ∧ outW o W = V
theorem outW_nl {k : Nat} {x : List UInt8} {W : List (Nat × List UInt8)} (o : Bool) (hk : silentB k = true) (hx : x.contains 10 = true) : outW o ((k, x) :: W) = semiW o ++ outW false W := by
  conv => lhs; unfold outW
  rw [if_pos hk, if_pos hx]
theorem outW_no {k : Nat} {x : List UInt8} {W : List (Nat × List UInt8)} (o : Bool) (hk : silentB k = true) (hx : x.contains 10 = false) : outW o ((k, x) :: W) = outW o W := by
  conv => lhs; unfold outW
  rw [if_pos hk, if_neg (by rw [hx]; decide)]
theorem outW_false {k : Nat} {x : List UInt8} {W : List (Nat × List UInt8)} (hk : silentB k = true) : outW false ((k, x) :: W) = outW false W := by
  cases hx : x.contains 10 with
  | true => rw [outW_nl false hk hx]; rfl
  | false => rw [outW_no false hk hx]
theorem outW_loud {k : Nat} {x : List UInt8} {W : List (Nat × List UInt8)} (o : Bool) (hk : silentB k = false) : outW o ((k, x) :: W) = tx (k, x) :: outW (endsB k x) W := by
  conv => lhs; unfold outW
  rw [if_neg (by rw [hk]; decide)]
theorem lexo_nl {t : List UInt8} {V : List (Nat × List UInt8)} (o : Bool) : LexO t false V → LexO (10 :: t) o (semiW o ++ V) := by
  rintro ⟨W, h, rfl⟩
  rcases lexes_blank (c := 10) (.inr (.inl rfl)) h with h1 | ⟨x, W', rfl, h1⟩
  · exact ⟨_, h1, outW_nl o rfl rfl⟩
  · exact ⟨_, h1, by rw [outW_nl o rfl (by simp), outW_false rfl]⟩
theorem lexo_no {c : UInt8} (hc : blankB c) (h10 : c ≠ 10) {t : List UInt8} {V : List (Nat × List UInt8)} (o : Bool) : LexO t o V → LexO (c :: t) o V := by
  rintro ⟨W, h, rfl⟩
  rcases lexes_blank hc h with h1 | ⟨x, W', rfl, h1⟩
  · exact ⟨_, h1, outW_no o rfl (by simp; exact fun e => h10 e.symm)⟩
  · refine ⟨_, h1, ?_⟩
    have hcx : (c :: x).contains 10 = x.contains 10 := by
      rw [List.contains_cons, show ((10 : UInt8) == c) = false by simp; exact fun e => h10 e.symm, Bool.false_or]
    cases hx : x.contains 10 with
    | true => rw [outW_nl o rfl (by rw [hcx]; exact hx), outW_nl o rfl hx]
    | false => rw [outW_no o rfl (by rw [hcx]; exact hx), outW_no o rfl hx]
theorem lexo_blanks {W : List (Nat × List UInt8)} {t : List UInt8} (h : ∀ o, LexO t o (outW o W)) : ∀ (x : List UInt8), (∀ c ∈ x, blankB c) → ∀ o, LexO (x ++ t) o (outW o ((10, x) :: W))
  | [], _, o => by rw [outW_no o rfl rfl]; exact h o
  | c :: x, hx, o => by
    have ih := lexo_blanks h x (fun d hd => hx d (List.mem_cons_of_mem _ hd))
    have hc := hx c (List.mem_cons_self ..)
    by_cases h10 : c = 10
    · subst h10
      rw [outW_nl o rfl (by simp)]
      have := lexo_nl o (ih false)
      rwa [outW_false rfl] at this
    · have := lexo_no hc h10 o (ih o)
      have hcx : (c :: x).contains 10 = x.contains 10 := by
        rw [List.contains_cons, show ((10 : UInt8) == c) = false by simp; exact fun e => h10 e.symm, Bool.false_or]
      cases hx : x.contains 10 with
      | true => rw [outW_nl o rfl (by rw [hcx]; exact hx)]; rwa [outW_nl o rfl hx] at this
      | false => rw [outW_no o rfl (by rw [hcx]; exact hx)]; rwa [outW_no o rfl hx] at this
theorem lexo_cons {k : Nat} {x t : List UInt8} {W : List (Nat × List UInt8)} (h1 : lexL (x ++ t) = (k, x.length)) (h2 : k ≠ 0) (h3 : wide x ≠ 0) (h : ∀ o, LexO t o (outW o W)) (o : Bool) : LexO (x ++ t) o (outW o ((k, x) :: W)) := by
  cases hs : silentB k with
  | true =>
    cases hx : x.contains 10 with
    | true =>
      obtain ⟨W2, g1, g2⟩ := h false
      exact ⟨(k, x) :: W2, ⟨t, rfl, h1, h2, h3, g1⟩, by rw [outW_nl o hs hx, outW_nl o hs hx, g2]⟩
    | false =>
      obtain ⟨W2, g1, g2⟩ := h o
      exact ⟨(k, x) :: W2, ⟨t, rfl, h1, h2, h3, g1⟩, by rw [outW_no o hs hx, outW_no o hs hx, g2]⟩
  | false =>
    obtain ⟨W2, g1, g2⟩ := h (endsB k x)
    exact ⟨(k, x) :: W2, ⟨t, rfl, h1, h2, h3, g1⟩, by rw [outW_loud o hs, outW_loud o hs, g2]⟩
/-- a comment is a blank, or a line's end -/
def com (x : Nat × List UInt8) : List UInt8 := if x.1 = 11 then [10] else if x.1 = 12 then (if x.2.contains 10 = true then [10] else [32]) else x.2
def comT (W : List (Nat × List UInt8)) : List UInt8 := W.flatMap com
theorem com_cons (x : Nat × List UInt8) (W : List (Nat × List UInt8)) : comT (x :: W) = com x ++ comT W := rfl
theorem com_like : ∀ (W : List (Nat × List UInt8)) (t : List UInt8), Lexes W t → comT W = t ∨ ∃ y v b u, t = y ++ v ∧ comT W = y ++ b :: u ∧ (b = 10 ∨ b = 32) ∧ (y = [] ∨ wide y ≠ 0)
  | [], t, h => by
    have h : t = [] := h
    exact .inl h.symm
  | (k, x) :: W, t, ⟨t', h1, h2, h3, h4, h5⟩ => by
    have h1 : t = x ++ t' := h1
    rw [com_cons]
    by_cases h11 : k = 11
    · exact .inr ⟨[], t, 10, comT W, rfl, by unfold com; rw [if_pos h11]; rfl, .inl rfl, .inl rfl⟩
    by_cases h12 : k = 12
    · cases hx : x.contains 10 with
      | true => exact .inr ⟨[], t, 10, comT W, rfl, by unfold com; rw [if_neg h11, if_pos h12, if_pos hx]; rfl, .inl rfl, .inl rfl⟩
      | false => exact .inr ⟨[], t, 32, comT W, rfl, by unfold com; rw [if_neg h11, if_pos h12, if_neg (by rw [hx]; decide)]; rfl, .inr rfl, .inl rfl⟩
    · have hc : com (k, x) = x := by unfold com; rw [if_neg h11, if_neg h12]
      rw [hc]
      rcases com_like W t' h5 with e | ⟨y, v, b, u, e1, e2, e3, e4⟩
      · exact .inl (by rw [e, h1])
      · exact .inr ⟨x ++ y, v, b, u, by rw [h1, e1, List.append_assoc], by rw [e2, List.append_assoc], e3, .inr (by rw [(wide_app h4 y).1]; exact h4)⟩
theorem com_lex {k : Nat} {x t' : List UInt8} {W : List (Nat × List UInt8)} (h2 : lexL (x ++ t') = (k, x.length)) (h3 : k ≠ 0) (h4 : wide x ≠ 0) (h5 : Lexes W t') (h10 : k ≠ 10) (h11 : k ≠ 11) : lexL (x ++ comT W) = (k, x.length) := by
  rcases com_like W t' h5 with e | ⟨y, v, b, u, e1, e2, e3, e4⟩
  · rw [e]; exact h2
  · rw [e2, ← List.append_assoc]
    rw [e1, ← List.append_assoc] at h2
    refine lex_cut e3 (by rw [(wide_app h4 y).1]; exact h4) h2 (by rw [List.length_append]; omega) h3 h10 (fun e => absurd e h11) (fun hlt => ?_)
    rw [List.drop_left]
    rcases e4 with rfl | e4
    · rw [List.append_nil] at hlt; omega
    · exact e4
theorem line_no10 : ∀ t : List UInt8, (t.take (lineLen t)).contains 10 = false
  | [] => rfl
  | c :: t => by
    by_cases h : c = 10
    · have : lineLen (c :: t) = 0 := by unfold lineLen; rw [if_pos h]
      rw [this]; rfl
    · have : lineLen (c :: t) = lineLen t + 1 := by conv => lhs; unfold lineLen
                                                    rw [if_neg h]
      rw [this, List.take_succ_cons, List.contains_cons, line_no10 t, show ((10 : UInt8) == c) = false by simp; exact fun e => h e.symm]; rfl
theorem lex_eleven {t : List UInt8} {n : Nat} (h : lexL t = (11, n)) : n = lineLen t := by
  unfold lexL at h
  split at h
  · exact absurd (Prod.mk.inj h).1 (by decide)
  split at h
  · exact absurd (Prod.mk.inj h).1 (by decide)
  split at h
  · exact (Prod.mk.inj h).2.symm
  split at h
  · split at h
    · exact absurd (Prod.mk.inj h).1 (by decide)
    · exact absurd (Prod.mk.inj h).1 (by decide)
  split at h
  · have := (Prod.mk.inj h).1
    split at this <;> exact absurd this (by decide)
  split at h
  · split at h
    · exact absurd (Prod.mk.inj h).1 (by decide)
    · have := (Prod.mk.inj h).1
      have := kind_small (t.take (Num.runLen t))
      omega
  split at h
  · cases hro : readOf t 0 with
    | none => rw [hro] at h; exact absurd (Prod.mk.inj h).1 (by decide)
    | some x =>
      obtain ⟨K, L, m⟩ := x
      rw [hro] at h
      have h1 : K = 11 := (Prod.mk.inj h).1
      rcases read_kind hro with e | e <;> omega
  split at h
  · exact absurd (Prod.mk.inj h).1 (by decide)
  split at h
  · exact absurd (Prod.mk.inj h).1 (by decide)
  · exact absurd (Prod.mk.inj h).1 (by decide)
/-- behind a comment of a line stands a line's end, or nothing -/
theorem line_next {t x t' : List UInt8} {W : List (Nat × List UInt8)} (h1 : t = x ++ t') (h2 : lexL t = (11, x.length)) (h5 : Lexes W t') : x.contains 10 = false ∧ (W = [] ∨ ∃ y W', W = (10, y) :: W' ∧ y.contains 10 = true) := by
  have hn := lex_eleven h2
  refine ⟨?_, ?_⟩
  · have := line_no10 t
    rw [← hn, h1, List.take_left] at this; exact this
  · rcases lineLen_byte t with h | h
    · left
      have hl := congrArg List.length h1
      rw [List.length_append] at hl
      have : t' = [] := List.eq_nil_of_length_eq_zero (by omega)
      match W, h5 with
      | [], _ => rfl
      | y :: W', ⟨u, e1, _, _, e4, _⟩ =>
        rw [this] at e1
        have := (wide_le y.2).2
        have hl := congrArg List.length e1
        rw [List.length_append, List.length_nil] at hl
        omega
    · right
      rw [← hn, h1, List.getElem?_append_right (Nat.le_refl _), Nat.sub_self] at h
      match t', h with
      | c :: u, h =>
        have hc : c = 10 := by simpa using h
        subst hc
        match W, h5 with
        | (k, y) :: W', ⟨v, e1, e2, e3, e4, e5⟩ =>
          have e1 : (10 : UInt8) :: u = y ++ v := e1
          have e2 : lexL (10 :: u) = (k, y.length) := e2
          have e4 : wide y ≠ 0 := e4
          have hs := span_blank (c := 10) (.inr (.inl rfl)) u
          rw [lex_blank (by omega)] at e2
          refine ⟨y, W', by rw [← (Prod.mk.inj e2).1], ?_⟩
          match y, e4, e1 with
          | [], e4, _ => exact absurd (by unfold wide; rw [if_pos (.inl rfl)]) e4
          | d :: y, _, e1 =>
            have := (List.cons.inj e1).1
            rw [← this]; simp
theorem com_lexo : ∀ (W : List (Nat × List UInt8)) (t : List UInt8), Lexes W t → ∀ o, LexO (comT W) o (outW o W)
  | [], t, _, o => ⟨[], rfl, rfl⟩
  | (k, x) :: W, t, ⟨t', h1, h2, h3, h4, h5⟩, o => by
    have h1 : t = x ++ t' := h1
    have h2 : lexL t = (k, x.length) := h2
    have h3 : k ≠ 0 := h3
    have h4 : wide x ≠ 0 := h4
    have ih := com_lexo W t' h5
    rw [com_cons]
    by_cases h11 : k = 11
    · subst h11
      have hc : com (11, x) = [10] := rfl
      rw [hc]
      obtain ⟨q1, q2⟩ := line_next h1 h2 h5
      rw [outW_no o rfl q1]
      have := lexo_nl o (ih false)
      rcases q2 with rfl | ⟨y, W', rfl, q3⟩
      · have e : semiW o ++ outW false [] = outW o [] := by show semiW o ++ [] = semiW o; rw [List.append_nil]
        rw [e] at this; exact this
      · rw [outW_false (k := 10) rfl, ← outW_nl (k := 10) o rfl q3] at this; exact this
    by_cases h12 : k = 12
    · subst h12
      cases hx : x.contains 10 with
      | true =>
        have hc : com (12, x) = [10] := by unfold com; rw [if_neg (show ¬ (12 : Nat) = 11 by decide), if_pos rfl, if_pos hx]
        rw [hc, outW_nl o rfl hx]
        exact lexo_nl o (ih false)
      | false =>
        have hc : com (12, x) = [32] := by unfold com; rw [if_neg (show ¬ (12 : Nat) = 11 by decide), if_pos rfl, if_neg (by show ¬ x.contains 10 = true; rw [hx]; decide)]
        rw [hc, outW_no o rfl hx]
        exact lexo_no (.inr (.inr (.inr rfl))) (by decide) o (ih o)
    have hc : com (k, x) = x := by unfold com; rw [if_neg h11, if_neg h12]
    rw [hc]
    by_cases h10 : k = 10
    · subst h10
      rcases ten_split h1 h2 h4 with ⟨e1, e2⟩ | hb
      · refine lexo_cons ?_ (by decide) h4 ih o
        obtain ⟨g1, g2⟩ := wide_app h4 (comT W)
        unfold lexL
        rw [g2, if_pos e1, g1, e2]
      · exact lexo_blanks ih x hb o
    · rw [h1] at h2
      exact lexo_cons (com_lex h2 h3 h4 h5 h10 h11) h3 h4 ih o
theorem com_plain {x : Nat × List UInt8} (h : Plain x.2) : Plain (com x) := by
  unfold com
  split
  · exact plain10
  split
  · split
    · exact plain10
    · exact plain32
  · exact h
theorem com_len : ∀ (W : List (Nat × List UInt8)) (t : List UInt8), Lexes W t → (comT W).length ≤ t.length
  | [], t, _ => Nat.zero_le _
  | (k, x) :: W, t, ⟨t', h1, h2, h3, h4, h5⟩ => by
    have h1 : t = x ++ t' := h1
    have h4 : wide x ≠ 0 := h4
    have ih := com_len W t' h5
    have hp := (wide_le x).2
    rw [com_cons, h1, List.length_append, List.length_append]
    have : (com (k, x)).length ≤ x.length := by
      unfold com
      split
      · show 1 ≤ _; omega
      split
      · split <;> (show 1 ≤ _; omega)
      · exact Nat.le_refl _
    omega
/-- comments are blanks: the text without comments has the same tokens -/
theorem com_all {l : List UInt8} {T : List (Nat × Nat × Nat)} (h : allAns l = (T, 0, 0)) : ∃ S, allAns (comT (texts l T)) = (S, 0, 0) ∧ toksT (comT (texts l T)) (sems (comT (texts l T)) none S) = toksT l (sems l none T) ∧ (comT (texts l T)).length ≤ l.length := by
  obtain ⟨hl, hc, hT⟩ := all_tiles h
  have hL := tiles_lexes T 0 hT
  rw [List.drop_zero] at hL
  obtain ⟨W, hW, hw⟩ := com_lexo _ _ hL false
  have hl2 := com_len _ _ hL
  have hclean : cleanAt (comT (texts l T)) (comT (texts l T)).length 0 = -1 := by
    rcases tiles_head hT hc with hp | ⟨x, V, e, e1, e2, e3, hp⟩
    · have := plain_clean (t := comT (texts l T)) (flat_plain fun x hx => com_plain (hp x hx)) [] (comT (texts l T)).length
      exact this
    · rw [e, com_cons]
      have hcx : com (10, x) = x := rfl
      rw [hcx]
      exact mark_clean e1 e2 e3 (flat_plain fun y hy => com_plain (hp y hy)) _
  obtain ⟨S, h1, h2⟩ := all_of hW hclean (by omega)
  refine ⟨S, h1, ?_, hl2⟩
  have a1 := toks_out (comT (texts l T)) S none
  have a2 := toks_out l T none
  rw [h2] at a1
  rw [a1, a2]
  exact hw
end Go.Proofs.YtbkmlldhjchhjaaGreat
