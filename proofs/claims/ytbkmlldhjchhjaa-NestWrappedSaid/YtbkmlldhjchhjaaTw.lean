/-
  Layer 9, plain: a text within brackets of its own (for the law NestWrapped).
-/
import Derived.Test.YtbkmlldhjchhjaaTs
import Derived.Test.YtbkmlldhjchhjaaTu
namespace Go.Proofs.Ytbkmlldhjchhjaa

/-- a line's end, and the bracket behind it -/
def endW : List (Nat × List UInt8) := [(10, [10]), (8, [41])]
def wrapT (l : List UInt8) : List UInt8 := 40 :: (l ++ [10, 41])
theorem endW_lexes : Lexes endW [10, 41] :=
  ⟨[41], rfl, by kernel_rfl, by decide, by decide, [], rfl, by kernel_rfl, by decide, by decide, rfl⟩
theorem outW_endW : ∀ (W : List (Nat × List UInt8)) (o : Bool), outW o (W ++ endW) = outW o W ++ [(8, [41]), (9, [59])]
  | [], o => by cases o <;> rfl
  | (k, x) :: W, o => by
    rw [List.cons_append]
    cases hk : silentB k with
    | true =>
      cases hx : x.contains 10 with
      | true => rw [outW_nl o hk hx, outW_nl o hk hx, outW_endW W, List.append_assoc]
      | false => rw [outW_no o hk hx, outW_no o hk hx, outW_endW W]
    | false => rw [outW_loud o hk, outW_loud o hk, outW_endW W]; rfl
theorem lexes_wide {W : List (Nat × List UInt8)} {t : List UInt8} (h : Lexes W t) : t = [] ∨ wide t ≠ 0 := by
  match W, h with
  | [], h => exact .inl h
  | x :: W, ⟨t', h1, _, _, h4, _⟩ =>
    right
    rw [h1, (wide_app h4 t').1]; exact h4
theorem wrap_lexo : ∀ (W : List (Nat × List UInt8)) (t : List UInt8), Lexes W t → ∀ o, LexO (t ++ [10, 41]) o (outW o (W ++ endW))
  | [], t, h, o => by
    have h : t = [] := h
    subst h
    exact ⟨endW, endW_lexes, rfl⟩
  | (k, x) :: W, t, ⟨t', h1, h2, h3, h4, h5⟩, o => by
    have h1 : t = x ++ t' := h1
    have h2 : lexL t = (k, x.length) := h2
    have h3 : k ≠ 0 := h3
    have h4 : wide x ≠ 0 := h4
    have ih := wrap_lexo W t' h5
    have hx : 0 < x.length := by have := (wide_le x).2; omega
    rw [h1, List.append_assoc, List.cons_append]
    by_cases h10 : k = 10
    · subst h10
      rcases ten_split h1 h2 h4 with ⟨e1, e2⟩ | hb
      · refine lexo_cons ?_ (by decide) h4 ih o
        obtain ⟨g1, g2⟩ := wide_app h4 (t' ++ [10, 41])
        unfold lexL
        rw [g2, if_pos e1, g1, e2]
      · exact lexo_blanks ih x hb o
    refine lexo_cons ?_ h3 h4 ih o
    by_cases h11 : k = 11
    · subst h11
      have hn : x.length = lineLen t := lex_eleven h2
      have hz : t' = [] ∨ ∃ u, t' = 10 :: u := by
        rcases lineLen_byte t with h | h
        · left
          have hl : t.length = x.length + t'.length := by rw [h1, List.length_append]
          exact List.eq_nil_of_length_eq_zero (by omega)
        · right
          rw [← hn, h1, List.getElem?_append_right (Nat.le_refl _), Nat.sub_self] at h
          match t', h with
          | c :: u, h =>
            have hc : c = 10 := by simpa using h
            exact ⟨u, by rw [hc]⟩
      rw [h1] at h2
      rcases hz with rfl | ⟨u, rfl⟩
      · exact lex_cut (v := []) (u := [41]) (.inl rfl) h4 h2 (Nat.le_refl _) h3 h10 (fun _ => ⟨rfl, rfl⟩) (fun h => absurd h (Nat.lt_irrefl _))
      · exact lex_cut (u := u ++ [10, 41]) (.inl rfl) h4 h2 (Nat.le_refl _) h3 h10 (fun _ => ⟨rfl, rfl⟩) (fun h => absurd h (Nat.lt_irrefl _))
    · rw [← List.append_assoc]
      rw [h1, ← List.append_nil (x ++ t')] at h2
      refine lex_cut (u := [41]) (.inl rfl) (by rw [(wide_app h4 t').1]; exact h4) h2 (by rw [List.length_append]; omega) h3 h10 (fun e => absurd e h11) (fun hlt => ?_)
      rw [List.drop_left]
      rcases lexes_wide h5 with rfl | h
      · rw [List.append_nil] at hlt; omega
      · exact h
theorem head_mark {l : List UInt8} (h : chr l = 65279) : l.take 3 = [239, 187, 191] ∧ 2 < l.length := by
  have hw : wide l ≠ 0 := by
    intro e
    rw [chr_none e] at h; exact absurd h (by decide)
  obtain ⟨hs, hc⟩ := chr_split hw
  rw [h] at hs
  have hf : form 65279 = [239, 187, 191] := by kernel_rfl
  rw [hf] at hs
  rw [hs]
  exact ⟨rfl, by simp⟩
/-- a text within brackets has the same tokens, and those of the brackets -/
theorem wrap_all {l : List UInt8} {T : List (Nat × Nat × Nat)} (h : allAns l = (T, 0, 0)) (hl : l.length ≤ 65533) (hb : chr l ≠ 65279) : ∃ V, allAns (wrapT l) = (V, 0, 0) ∧ toksT (wrapT l) (sems (wrapT l) none V) = (8, [40]) :: (toksT l (sems l none T) ++ [(8, [41]), (9, [59])]) := by
  obtain ⟨_, hc, hT⟩ := all_tiles h
  have hL := tiles_lexes T 0 hT
  rw [List.drop_zero] at hL
  obtain ⟨W, hW, hw⟩ := wrap_lexo _ _ hL false
  rw [outW_endW] at hw
  have hP : Plain l := by
    have := clean_plain l l.length 0 hc (by omega) (Nat.zero_le _) (.inr (by rw [List.drop_zero]; exact hb))
    rwa [List.drop_zero] at this
  have hP' : Plain (wrapT l) := (plain_ascii (t := [40]) (by decide)).app (hP.app (plain_ascii (t := [10, 41]) (by decide)))
  have hW' : Lexes ((8, [40]) :: W) (wrapT l) := ⟨l ++ [10, 41], rfl, lex_bracket (.inl rfl) _, Nat.succ_ne_zero 7, wide_one (by decide) _, hW⟩
  obtain ⟨h1, h2⟩ := all_spots hW' hP' (by unfold wrapT; rw [List.length_cons, List.length_append]; show _ + 2 + 1 ≤ _; omega)
  refine ⟨_, h1, ?_⟩
  have a1 := toks_out (wrapT l) (spots ((8, [40]) :: W) 0) none
  have a2 := toks_out l T none
  rw [h2, outW_loud (k := 8) _ rfl] at a1
  have e : endsB 8 [40] = false := by decide
  rw [a1, a2, e, hw]
  rfl
theorem sort_tx (l : List UInt8) (x : Nat × Nat × Nat) : sortOf l x = brk (tx (x.1, textAt l x)).1 (tx (x.1, textAt l x)).2 := by
  unfold sortOf tx
  dsimp only
  by_cases h : x.1 = 9
  · rw [h]; unfold brk; rw [if_pos (by decide), if_pos (by decide)]
  · rw [if_neg h]
theorem sorts_eq {l l' : List UInt8} {Q S : List (Nat × Nat × Nat)} (h : toksT l' Q = toksT l S) : Q.map (sortOf l') = S.map (sortOf l) ∧ Q.map (·.1) = S.map (·.1) := by
  have e : ∀ (l : List UInt8) (S : List (Nat × Nat × Nat)), S.map (sortOf l) = (toksT l S).map fun y => brk y.1 y.2 := by
    intro l S
    unfold toksT
    rw [List.map_map]
    exact List.map_congr_left fun x _ => sort_tx l x
  have e2 : ∀ (l : List UInt8) (S : List (Nat × Nat × Nat)), S.map (·.1) = (toksT l S).map (·.1) := by
    intro l S
    unfold toksT
    rw [List.map_map]; rfl
  exact ⟨by rw [e, e, h], by rw [e2 l', e2 l, h]⟩
def sh (v : Int) : Int := if v = -1 then -1 else v + 1
theorem sh_nat (i : Nat) : sh (i : Int) = ((i + 1 : Nat) : Int) := by unfold sh; rw [if_neg (by omega)]; omega
/-- partners of a text, and of the same within brackets -/
structure RelW (n i : Nat) (pr pr' : List Int) : Prop where
  len : pr.length = n
  len' : pr'.length = n + 3
  at_ : ∀ j : Nat, j < i → ∃ v, pr[j]? = some v ∧ pr'[j + 1]? = some (sh v)
theorem rel_skip {n i : Nat} {pr pr' : List Int} (h : RelW n i pr pr') (hi : i < n) : RelW n (i + 1) (pr.set i (-1)) (pr'.set (i + 1) (-1)) := by
  obtain ⟨h1, h2, h3⟩ := h
  refine ⟨by rw [List.length_set]; exact h1, by rw [List.length_set]; exact h2, fun j hj => ?_⟩
  by_cases he : i = j
  · subst he
    exact ⟨-1, set_at (by omega) _, set_at (by omega) _⟩
  · obtain ⟨v, a, b⟩ := h3 j (by omega)
    exact ⟨v, by rw [set_far he]; exact a, by rw [set_far (by omega)]; exact b⟩
theorem rel_pair {n i t : Nat} {pr pr' : List Int} (h : RelW n (i + 1) pr pr') (hi : i < n) (ht : t < i) : RelW n (i + 1) ((pr.set t (i : Int)).set i (t : Int)) ((pr'.set (t + 1) ((i + 1 : Nat) : Int)).set (i + 1) ((t + 1 : Nat) : Int)) := by
  obtain ⟨h1, h2, h3⟩ := h
  refine ⟨by rw [List.length_set, List.length_set]; exact h1, by rw [List.length_set, List.length_set]; exact h2, fun j hj => ?_⟩
  by_cases he : i = j
  · subst he
    exact ⟨t, set_at (by rw [List.length_set]; omega) _, by rw [set_at (by rw [List.length_set]; omega), sh_nat]⟩
  by_cases hf : t = j
  · subst hf
    exact ⟨i, by rw [set_far he, set_at (by omega)], by rw [set_far (by omega), set_at (by omega), sh_nat]⟩
  · obtain ⟨v, a, b⟩ := h3 j (by omega)
    exact ⟨v, by rw [set_far he, set_far hf]; exact a, by rw [set_far (by omega), set_far (by omega)]; exact b⟩
theorem nest_most (l : List UInt8) (S : List (Nat × Nat × Nat)) : ∀ (R : List (Nat × Nat × Nat)) (i : Nat) (st : List Nat) (most : Nat) (pr P : List Int) (f : Int) (m : Nat), nestGo l S R i st most pr = (0, f, P, m) → most ≤ m ∧ (most ≤ 100 → st.length ≤ most → m ≤ 100)
  | [], i, [], most, pr, P, f, m, hg => by
    have hg : ((0 : Int), (0 : Int), pr, most) = (0, f, P, m) := hg
    have hm : most = m := by injection hg with _ hg; injection hg with _ hg; injection hg
    exact ⟨by omega, fun _ _ => by omega⟩
  | [], i, t :: st, most, pr, P, f, m, hg => by
    have hg : ((5 : Int), ((tokAt S t).2.1 : Int), ([] : List Int), 0) = (0, f, P, m) := hg
    injection hg with hg; exact absurd hg (by decide)
  | x :: R, i, st, most, pr, P, f, m, hg => by
    by_cases hpos : 0 < sortOf l x
    · rw [go_open hpos] at hg
      by_cases hf : st.length = 100
      · rw [if_pos hf] at hg; injection hg with hg; exact absurd hg (by decide)
      · rw [if_neg hf] at hg
        obtain ⟨a, b⟩ := nest_most l S R _ _ _ _ P f m hg
        exact ⟨by omega, fun h1 h2 => b (by omega) (by rw [List.length_cons]; omega)⟩
    by_cases hneg : sortOf l x < 0
    · cases st with
      | nil => rw [go_none hneg] at hg; injection hg with hg; exact absurd hg (by decide)
      | cons t st =>
        rw [go_shut hneg] at hg
        by_cases hz : sortOf l (tokAt S t) + sortOf l x = 0
        · rw [if_pos hz] at hg
          obtain ⟨a, b⟩ := nest_most l S R _ _ _ _ P f m hg
          exact ⟨a, fun h1 h2 => b h1 (by rw [List.length_cons] at h2; omega)⟩
        · rw [if_neg hz] at hg; injection hg with hg; exact absurd hg (by decide)
    · rw [go_other hpos hneg] at hg
      exact nest_most l S R _ _ _ _ P f m hg
/-- brackets within brackets: one more open all the way -/
theorem nest_wrap (l l' : List UInt8) (S Q : List (Nat × Nat × Nat)) (c1 c2 : Nat × Nat × Nat) (q1 : sortOf l' c1 = -1) (q2 : sortOf l' c2 = 0) (q0 : sortOf l' (tokAt Q 0) = 1) (hst : ∀ t, t < S.length → sortOf l' (tokAt Q (t + 1)) = sortOf l (tokAt S t)) :
    ∀ (R M : List (Nat × Nat × Nat)) (i : Nat) (st : List Nat) (most : Nat) (pr pr' P : List Int) (f : Int) (m : Nat), M.map (sortOf l') = R.map (sortOf l) → i + R.length = S.length → RelW S.length i pr pr' → (∀ t ∈ st, t < i) → st.length ≤ most → most ≤ 99 → nestGo l S R i st most pr = (0, f, P, m) →
      (m = 100 ∧ ∃ e, nestGo l' Q (M ++ [c1, c2]) (i + 1) (st.map (· + 1) ++ [0]) (most + 1) pr' = (6, e, [], 0)) ∨
      (m ≤ 99 ∧ ∃ P', nestGo l' Q (M ++ [c1, c2]) (i + 1) (st.map (· + 1) ++ [0]) (most + 1) pr' = (0, 0, P', m + 1) ∧ RelW S.length S.length P P' ∧ P'[0]? = some ((S.length + 1 : Nat) : Int))
  | [], M, i, [], most, pr, pr', P, f, m, hM, hi, hR, hs, h1, h2, hg => by
    right
    have hg : ((0 : Int), (0 : Int), pr, most) = (0, f, P, m) := hg
    have hm : most = m := by injection hg with _ hg; injection hg with _ hg; injection hg
    have hP : pr = P := by injection hg with _ hg; injection hg with _ hg; injection hg
    have hM0 : M = [] := List.map_eq_nil_iff.1 hM
    rw [List.length_nil, Nat.add_zero] at hi
    subst hM0 hi
    rw [← hm, ← hP]
    refine ⟨h2, ((((pr'.set (S.length + 1) (-1)).set 0 ((S.length + 1 : Nat) : Int)).set (S.length + 1) ((0 : Nat) : Int)).set (S.length + 1 + 1) (-1)), ?_, ⟨hR.len, ?_, fun j hj => ?_⟩, ?_⟩
    · rw [List.nil_append, List.map_nil, List.nil_append, go_shut (by rw [q1]; decide), if_pos (by rw [q0, q1]; decide), go_other (by rw [q2]; decide) (by rw [q2]; decide)]
      rfl
    · simp only [List.length_set]; exact hR.len'
    · obtain ⟨v, a, b⟩ := hR.at_ j hj
      exact ⟨v, a, by rw [set_far (by omega), set_far (by omega), set_far (by omega), set_far (by omega)]; exact b⟩
    · rw [set_far (by omega), set_far (by omega), set_at (by rw [List.length_set, hR.len']; omega)]
  | [], M, i, t :: st, most, pr, pr', P, f, m, _, _, _, _, _, _, hg => by
    have hg : ((5 : Int), ((tokAt S t).2.1 : Int), ([] : List Int), 0) = (0, f, P, m) := hg
    injection hg with hg; exact absurd hg (by decide)
  | x :: R, [], i, st, most, pr, pr', P, f, m, hM, _, _, _, _, _, _ => by cases hM
  | x :: R, y :: M, i, st, most, pr, pr', P, f, m, hM, hi, hR, hs, h1, h2, hg => by
    rw [List.map_cons, List.map_cons] at hM
    obtain ⟨hy, hM⟩ := List.cons.inj hM
    rw [List.length_cons] at hi
    have hin : i < S.length := by omega
    have hR' := rel_skip hR hin
    rw [List.cons_append]
    by_cases hpos : 0 < sortOf l x
    · rw [go_open hpos, if_neg (by omega)] at hg
      rw [go_open (by rw [hy]; exact hpos), List.length_append, List.length_map]
      by_cases h99 : st.length = 99
      · left
        obtain ⟨a, b⟩ := nest_most l S R _ _ _ _ P f m hg
        refine ⟨?_, _, by rw [if_pos (by rw [h99]; rfl)]⟩
        have := b (by omega) (by rw [List.length_cons]; omega)
        omega
      · rw [if_neg (by show ¬ st.length + 1 = 100; omega), show max (most + 1) (st.length + [0].length + 1) = max most (st.length + 1) + 1 by show max (most + 1) (st.length + 1 + 1) = _; omega]
        exact nest_wrap l l' S Q c1 c2 q1 q2 q0 hst R M (i + 1) (i :: st) _ _ _ P f m hM (by omega) hR' (fun t ht => by
          rcases List.mem_cons.1 ht with rfl | ht
          · omega
          · have := hs t ht; omega) (by rw [List.length_cons]; omega) (by omega) hg
    by_cases hneg : sortOf l x < 0
    · cases st with
      | nil => rw [go_none hneg] at hg; injection hg with hg; exact absurd hg (by decide)
      | cons t st =>
        rw [go_shut hneg] at hg
        have hti : t < i := hs t (List.mem_cons_self ..)
        rw [List.map_cons, List.cons_append, go_shut (by rw [hy]; exact hneg), hst t (by omega), hy]
        by_cases hz : sortOf l (tokAt S t) + sortOf l x = 0
        · rw [if_pos hz] at hg
          rw [if_pos hz]
          exact nest_wrap l l' S Q c1 c2 q1 q2 q0 hst R M (i + 1) st most _ _ P f m hM (by omega) (rel_pair hR' hin hti) (fun u hu => by have := hs u (List.mem_cons_of_mem _ hu); omega) (by rw [List.length_cons] at h1; omega) h2 hg
        · rw [if_neg hz] at hg; injection hg with hg; exact absurd hg (by decide)
    · rw [go_other hpos hneg] at hg
      rw [go_other (by rw [hy]; exact hpos) (by rw [hy]; exact hneg)]
      exact nest_wrap l l' S Q c1 c2 q1 q2 q0 hst R M (i + 1) st most _ _ P f m hM (by omega) hR' (fun u hu => by have := hs u hu; omega) h1 h2 hg
/-- what nest.Of says of a text within brackets -/
theorem wrap_nest {l : List UInt8} {S : List (Nat × Nat × Nat)} {P : List Int} {m : Nat} (hs : semAns l = (S, 0, 0)) (hg : nestGo l S S 0 [] 0 (List.replicate S.length 0) = (0, 0, P, m)) (hl : l.length ≤ 65533) (hb : chr l ≠ 65279) :
    (m = 100 ∧ ∃ g, nestAns (wrapT l) = ([], [], 0, 6, g)) ∨
    (m ≤ 99 ∧ ∃ Q P', nestAns (wrapT l) = (Q, P', m + 1, 0, 0) ∧ Q.length = S.length + 3 ∧ P'.length = S.length + 3 ∧ (∀ j x, S[j]? = some x → ∃ y, Q[j + 1]? = some y ∧ y.1 = x.1) ∧ (∀ j : Nat, j < S.length → ∃ v, P[j]? = some v ∧ P'[j + 1]? = some (sh v)) ∧ P'[0]? = some ((S.length + 1 : Nat) : Int)) := by
  rcases all_cases l with ⟨f, g, h1, h2, _, _⟩ | ⟨T, h1, _, _⟩
  · rw [sem_bad h1 h2] at hs
    exact absurd (Prod.mk.inj (Prod.mk.inj hs).2).1 h2
  rw [sem_good h1] at hs
  have hS : sems l none T = S := (Prod.mk.inj hs).1
  obtain ⟨V, w1, w2⟩ := wrap_all h1 hl hb
  rw [hS] at w2
  have hsw := sem_good w1
  obtain ⟨Q, hQ⟩ : ∃ Q, Q = sems (wrapT l) none V := ⟨_, rfl⟩
  rw [← hQ] at w2 hsw
  clear hQ w1
  generalize wrapT l = l' at *
  obtain ⟨y0, Q1, rfl, e0, w3⟩ := List.map_eq_cons_iff.1 w2
  obtain ⟨M, E, rfl, w4, w5⟩ := List.map_eq_append_iff.1 w3
  obtain ⟨c1, E1, rfl, e1, w6⟩ := List.map_eq_cons_iff.1 w5
  obtain ⟨c2, E2, rfl, e2, w7⟩ := List.map_eq_cons_iff.1 w6
  obtain rfl := List.map_eq_nil_iff.1 w7
  have w4 : toksT l' M = toksT l S := w4
  obtain ⟨hM, hk⟩ := sorts_eq w4
  have lM : M.length = S.length := by have := congrArg List.length hM; rwa [List.length_map, List.length_map] at this
  have q0 : sortOf l' y0 = 1 := by rw [sort_tx, e0]; rfl
  have q1 : sortOf l' c1 = -1 := by rw [sort_tx, e1]; rfl
  have q2 : sortOf l' c2 = 0 := by rw [sort_tx, e2]; rfl
  obtain ⟨Q, hQ⟩ : ∃ Q, Q = y0 :: (M ++ [c1, c2]) := ⟨_, rfl⟩
  rw [← hQ] at hsw
  have lQ : Q.length = S.length + 3 := by rw [hQ, List.length_cons, List.length_append, lM]; rfl
  have atM : ∀ j x, S[j]? = some x → ∃ y, Q[j + 1]? = some y ∧ M[j]? = some y := by
    intro j x hx
    have hj := (List.getElem?_eq_some_iff.1 hx).1
    obtain ⟨y, hy⟩ : ∃ y, M[j]? = some y := ⟨M[j]'(by omega), List.getElem?_eq_getElem (by omega)⟩
    refine ⟨y, ?_, hy⟩
    rw [hQ, List.getElem?_cons_succ, List.getElem?_append_left (by omega)]
    exact hy
  have hst : ∀ t, t < S.length → sortOf l' (tokAt Q (t + 1)) = sortOf l (tokAt S t) := by
    intro t ht
    obtain ⟨y, a, b⟩ := atM t S[t] (List.getElem?_eq_getElem ht)
    unfold tokAt
    rw [a, List.getElem?_eq_getElem ht]
    have : (M.map (sortOf l'))[t]? = (S.map (sortOf l))[t]? := by rw [hM]
    rw [List.getElem?_map, List.getElem?_map, b, List.getElem?_eq_getElem ht] at this
    simpa using this
  have hQ0 : sortOf l' (tokAt Q 0) = 1 := by rw [hQ]; exact q0
  have key := nest_wrap l l' S Q c1 c2 q1 q2 hQ0 hst S M 0 [] 0 (List.replicate S.length 0) ((List.replicate Q.length 0).set 0 (-1)) P 0 m hM (by omega) ⟨List.length_replicate, by rw [List.length_set, List.length_replicate, lQ], fun j h => absurd h (Nat.not_lt_zero _)⟩ (fun t h => by cases h) (Nat.le_refl _) (by decide) hg
  have hgo : nestGo l' Q Q 0 [] 0 (List.replicate Q.length 0) = nestGo l' Q (M ++ [c1, c2]) (0 + 1) ([].map (· + 1) ++ [0]) (0 + 1) ((List.replicate Q.length 0).set 0 (-1)) := by
    have := go_open (l := l') (S := Q) (x := y0) (R := M ++ [c1, c2]) (i := 0) (st := []) (most := 0) (pr := List.replicate Q.length 0) (by rw [q0]; decide)
    rw [← hQ] at this
    rw [this]; rfl
  rw [← hgo] at key
  rcases key with ⟨k1, g, k2⟩ | ⟨k1, P', k2, k3, k4⟩
  · left
    refine ⟨k1, g, ?_⟩
    rw [nest_good hsw k2, if_neg (fun e => absurd e (show ¬ (6 : Int) = 0 by decide))]
  · right
    refine ⟨k1, Q, P', ?_, lQ, k3.len', fun j x hx => ?_, fun j hj => k3.at_ j hj, k4⟩
    · rw [nest_good hsw k2, if_pos rfl]
    · obtain ⟨y, a, b⟩ := atM j x hx
      refine ⟨y, a, ?_⟩
      have : (M.map (·.1))[j]? = (S.map (·.1))[j]? := by rw [hk]
      rw [List.getElem?_map, List.getElem?_map, b, hx] at this
      simpa using this
end Go.Proofs.Ytbkmlldhjchhjaa
