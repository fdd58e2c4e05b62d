/-
  Layer 9, plain: where lexemes lie; brackets within brackets (for the law NestDeep).
-/
import Derived.Test.YtbkmlldhjchhjaaTr
namespace Go.Proofs.Ytbkmlldhjchhjaa

/-- where lexemes lie that follow one another -/
def spots : List (Nat × List UInt8) → Nat → List (Nat × Nat × Nat)
  | [], _ => []
  | x :: W, p => (x.1, p, p + x.2.length) :: spots W (p + x.2.length)
theorem lexes_spots {l : List UInt8} : ∀ (W : List (Nat × List UInt8)) (p f : Nat), Lexes W (l.drop p) → p ≤ l.length → l.length - p ≤ f → toks l f p = (spots W p, none) ∧ texts l (spots W p) = W
  | [], p, f, h, hp, hf => by
    have h : l.drop p = [] := h
    have := List.length_drop (l := l) (i := p)
    rw [h, List.length_nil] at this
    exact ⟨toks_end l f p (by omega), rfl⟩
  | (k, x) :: W, p, f, ⟨t', h1, h2, h3, h4, h5⟩, hp, hf => by
    have h1 : l.drop p = x ++ t' := h1
    have h2 : lexL (l.drop p) = (k, x.length) := h2
    have h4 : wide x ≠ 0 := h4
    have hx : 0 < x.length := by have := (wide_le x).2; omega
    have hl := congrArg List.length h1
    rw [List.length_drop, List.length_append] at hl
    obtain ⟨g, rfl⟩ : ∃ g, f = g + 1 := ⟨f - 1, by omega⟩
    have hd : l.drop (p + x.length) = t' := by rw [← List.drop_drop, h1, List.drop_left]
    obtain ⟨ih1, ih2⟩ := lexes_spots W (p + x.length) g (by rw [hd]; exact h5) (by omega) (by omega)
    have hv := lexV_some h2 h3
    have hk : ¬ (lexV l p).1 = 0 := by rw [hv]; exact h3
    refine ⟨?_, ?_⟩
    · rw [toks_step l g p (by omega), if_neg hk, hv, ih1]; rfl
    · show (k, (l.drop p).take (p + x.length - p)) :: texts l (spots W (p + x.length)) = _
      rw [ih2, h1, show p + x.length - p = x.length by omega, List.take_left]
theorem all_spots {W : List (Nat × List UInt8)} {t : List UInt8} (h : Lexes W t) (hc : Plain t) (hl : t.length ≤ 65536) : allAns t = (spots W 0, 0, 0) ∧ texts t (spots W 0) = W := by
  obtain ⟨h1, h2⟩ := lexes_spots (l := t) W 0 t.length (by rw [List.drop_zero]; exact h) (Nat.zero_le _) (by omega)
  refine ⟨?_, h2⟩
  have := plain_clean hc [] t.length
  have hc : cleanAt t t.length 0 = -1 := this
  unfold allAns
  rw [if_neg (by omega), hc, if_neg (by decide), h1]
  rfl
theorem spots_app (V : List (Nat × List UInt8)) : ∀ (W : List (Nat × List UInt8)) (p : Nat), spots (W ++ V) p = spots W p ++ spots V (p + (W.flatMap (·.2)).length)
  | [], p => by simp [spots]
  | x :: W, p => by
    have := spots_app V W (p + x.2.length)
    show (x.1, p, p + x.2.length) :: spots (W ++ V) (p + x.2.length) = (x.1, p, p + x.2.length) :: (spots W (p + x.2.length) ++ _)
    rw [this, List.flatMap_cons, List.length_append, Nat.add_assoc]
/-- a bracket at the head of a text -/
theorem lex_bracket {o : UInt8} (ho : o = 40 ∨ o = 91 ∨ o = 123 ∨ o = 41 ∨ o = 93 ∨ o = 125) (t : List UInt8) : lexL (o :: t) = (8, 1) := by
  have h1 : isSign ((o :: t).take (0 + 1)) = true := by rcases ho with rfl | rfl | rfl | rfl | rfl | rfl <;> rfl
  have hsl : signLen (o :: t) = 1 := by
    match t, h1 with
    | [], h1 =>
      show (if isSign ((o :: []).take (0 + 1)) = true then 0 + 1 else signAt [o] 0) = 1
      rw [if_pos h1]
    | c :: t, h1 =>
      have hs : ∀ n, ¬ isSign ((o :: c :: t).take (n + 2)) = true := by
        intro n
        rw [List.take_succ_cons, List.take_succ_cons]
        unfold isSign signs
        rcases ho with rfl | rfl | rfl | rfl | rfl | rfl <;> simp
      have : ∀ n, 1 ≤ n → signAt (o :: c :: t) n = 1 := by
        intro n
        induction n with
        | zero => intro h; omega
        | succ n ih =>
          intro _
          unfold signAt
          cases n with
          | zero => rw [if_pos h1]
          | succ n =>
            rw [if_neg (hs n)]
            exact ih (by omega)
      exact this _ (by rw [List.length_cons]; omega)
  obtain ⟨g1, g2⟩ := ascii_head o t (by rcases ho with rfl | rfl | rfl | rfl | rfl | rfl <;> decide)
  unfold lexL
  rw [g2, hsl]
  rcases ho with rfl | rfl | rfl | rfl | rfl | rfl <;> rfl
theorem lex_letter {o : UInt8} (ho : o = 120 ∨ o = 97) (t : List UInt8) (ht : t = [] ∨ ∃ c u, t = c :: u ∧ (c = 40 ∨ c = 91 ∨ c = 123 ∨ c = 41 ∨ c = 93 ∨ c = 125)) : lexL (o :: t) = (1, 1) := by
  obtain ⟨g1, g2⟩ := ascii_head o t (by rcases ho with rfl | rfl <;> decide)
  have hl : spanLen isPart (o :: t) = 1 := by
    have hd : (o :: t).drop 0 = o :: t := rfl
    unfold spanLen
    rw [List.length_cons, spanAt_goes t.length (by simp) (by rw [hd, g1, g2]; rcases ho with rfl | rfl <;> decide), hd, g1]
    rcases ht with rfl | ⟨c, u, rfl, hc⟩
    · rfl
    · apply spanAt_stop
      rw [show (o :: c :: u).drop (0 + 1) = c :: u from rfl]
      obtain ⟨k1, k2⟩ := ascii_head c u (by rcases hc with rfl | rfl | rfl | rfl | rfl | rfl <;> decide)
      right
      rw [k2]
      rcases hc with rfl | rfl | rfl | rfl | rfl | rfl <;> decide
  unfold lexL
  rw [g2, hl]
  rcases ho with rfl | rfl <;> rfl
theorem plain_ascii : ∀ {t : List UInt8}, (∀ c ∈ t, 0 < c.toNat ∧ c.toNat < 128) → Plain t
  | [], _ => Plain.nil
  | c :: t, h => by
    obtain ⟨h1, h2⟩ := h c (List.mem_cons_self ..)
    refine Plain.app (a := [c]) ⟨[(c.toNat : Int)], ?_, fun d hd => ?_⟩ (plain_ascii fun d hd => h d (List.mem_cons_of_mem _ hd))
    · rw [List.flatMap_cons, form_ascii _ (by omega) (by omega)]
      simp
    · rw [List.mem_singleton] at hd
      subst hd
      refine ⟨?_, by omega, by omega⟩
      unfold isChar
      rw [decide_eq_true_eq]
      omega
theorem wide_one {c : UInt8} (h : c.toNat < 128) (t : List UInt8) : wide (c :: t) ≠ 0 := by
  rw [(ascii_head c t h).1]; decide
theorem lexes_brackets {o : UInt8} (ho : o = 40 ∨ o = 91 ∨ o = 123 ∨ o = 41 ∨ o = 93 ∨ o = 125) {V : List (Nat × List UInt8)} {t : List UInt8} (h : Lexes V t) : ∀ k, Lexes (List.replicate k (8, [o]) ++ V) (List.replicate k o ++ t)
  | 0 => h
  | k + 1 => by
    rw [List.replicate_succ, List.replicate_succ]
    exact ⟨List.replicate k o ++ t, rfl, lex_bracket ho _, Nat.succ_ne_zero 7, wide_one (by rcases ho with rfl | rfl | rfl | rfl | rfl | rfl <;> decide) _, lexes_brackets ho h k⟩
theorem sems_louds (l : List UInt8) : ∀ (T : List (Nat × Nat × Nat)) (o : Option Nat), (∀ x ∈ T, silentB x.1 = false) → ∃ U, sems l o T = T ++ U ∧ (U = [] ∨ ∃ z, U = [(9, z, z)])
  | [], none, _ => ⟨[], rfl, .inl rfl⟩
  | [], some z, _ => ⟨[(9, z, z)], rfl, .inr ⟨z, rfl⟩⟩
  | x :: T, o, h => by
    obtain ⟨U, h1, h2⟩ := sems_louds l T (if endsB x.1 (textAt l x) = true then some x.2.2 else none) (fun y hy => h y (List.mem_cons_of_mem _ hy))
    exact ⟨U, by rw [sems_loud l o x T (h x (List.mem_cons_self ..)), h1]; rfl, h2⟩
theorem sort_nine (l : List UInt8) (z : Nat) : sortOf l (9, z, z) = 0 := by unfold sortOf brk; rfl
/-- opening brackets, one after another -/
theorem go_opens {l : List UInt8} {S : List (Nat × Nat × Nat)} {v : Int} (hv : 0 < v) (R : List (Nat × Nat × Nat)) : ∀ (O : List (Nat × Nat × Nat)) (i : Nat) (st : List Nat) (pr : List Int), (∀ x ∈ O, sortOf l x = v) → (∀ j x, O[j]? = some x → tokAt S (i + j) = x) → st.length + O.length ≤ 100 → (∀ t ∈ st, sortOf l (tokAt S t) = v) →
    ∃ st' pr', nestGo l S (O ++ R) i st st.length pr = nestGo l S R (i + O.length) st' st'.length pr' ∧ st'.length = st.length + O.length ∧ (∀ t ∈ st', sortOf l (tokAt S t) = v) ∧ (O = [] ∧ st' = st ∨ ∃ u, st' = (i + O.length - 1) :: u)
  | [], i, st, pr, _, _, _, h => ⟨st, pr, rfl, rfl, h, .inl ⟨rfl, rfl⟩⟩
  | x :: O, i, st, pr, ho, hS, hl, h => by
    rw [List.length_cons] at hl
    have hx := ho x (List.mem_cons_self ..)
    have hSx := hS 0 x rfl
    obtain ⟨st', pr', h1, h2, h3, h4⟩ := go_opens hv R O (i + 1) (i :: st) (pr.set i (-1)) (fun y hy => ho y (List.mem_cons_of_mem _ hy)) (fun j y hy => by have := hS (j + 1) y hy; rw [← this, Nat.add_assoc, Nat.add_comm 1 j]) (by rw [List.length_cons]; omega) (fun t ht => by
      rcases List.mem_cons.1 ht with rfl | ht
      · rw [Nat.add_zero] at hSx; rw [hSx]; exact hx
      · exact h t ht)
    refine ⟨st', pr', ?_, by rw [h2, List.length_cons, List.length_cons]; omega, h3, .inr ?_⟩
    · rw [List.cons_append, go_open (by rw [hx]; exact hv), if_neg (by omega), show max st.length (st.length + 1) = (i :: st).length by rw [List.length_cons]; omega, h1, List.length_cons, show i + 1 + O.length = i + (O.length + 1) by omega]
    · rcases h4 with ⟨rfl, h4⟩ | ⟨u, h4⟩
      · exact ⟨st, by rw [h4]; rfl⟩
      · exact ⟨u, by rw [h4, List.length_cons]; congr 1; omega⟩
/-- shutting brackets, one after another -/
theorem go_shuts {l : List UInt8} {S : List (Nat × Nat × Nat)} {v : Int} (hv : 0 < v) (R : List (Nat × Nat × Nat)) (most : Nat) : ∀ (C : List (Nat × Nat × Nat)) (i : Nat) (st : List Nat) (pr : List Int), (∀ x ∈ C, sortOf l x = -v) → C.length ≤ st.length → (∀ t ∈ st, sortOf l (tokAt S t) = v) →
    ∃ st' pr', nestGo l S (C ++ R) i st most pr = nestGo l S R (i + C.length) st' most pr' ∧ st'.length + C.length = st.length
  | [], i, st, pr, _, _, _ => ⟨st, pr, rfl, rfl⟩
  | x :: C, i, [], pr, _, hl, _ => by rw [List.length_cons, List.length_nil] at hl; omega
  | x :: C, i, t :: st, pr, ho, hl, h => by
    rw [List.length_cons, List.length_cons] at hl
    have hx := ho x (List.mem_cons_self ..)
    obtain ⟨st', pr', h1, h2⟩ := go_shuts hv R most C (i + 1) st (((pr.set i (-1)).set t (i : Int)).set i (t : Int)) (fun y hy => ho y (List.mem_cons_of_mem _ hy)) (by omega) (fun u hu => h u (List.mem_cons_of_mem _ hu))
    refine ⟨st', pr', ?_, by rw [List.length_cons, List.length_cons]; omega⟩
    rw [List.cons_append, go_shut (by rw [hx]; omega), if_pos (by rw [h t (List.mem_cons_self ..), hx]; omega), h1, List.length_cons, show i + 1 + C.length = i + (C.length + 1) by omega]
/-- the end: nothing, or a semicolon of a line's end -/
theorem go_end {l : List UInt8} {S U : List (Nat × Nat × Nat)} (hU : U = [] ∨ ∃ z, U = [(9, z, z)]) (i : Nat) (st : List Nat) (most : Nat) (pr : List Int) : ∃ i' pr', nestGo l S U i st most pr = nestGo l S [] i' st most pr' := by
  rcases hU with rfl | ⟨z, rfl⟩
  · exact ⟨i, pr, rfl⟩
  · exact ⟨i + 1, pr.set i (-1), by rw [go_other (by rw [sort_nine]; decide) (by rw [sort_nine]; decide)]⟩
theorem spots_rep (o : UInt8) : ∀ (k p j : Nat), j < k → (spots (List.replicate k (8, [o])) p)[j]? = some (8, p + j, p + j + 1)
  | 0, p, j, h => by omega
  | k + 1, p, 0, h => rfl
  | k + 1, p, j + 1, h => by
    rw [List.replicate_succ]
    show (spots (List.replicate k (8, [o])) (p + 1))[j]? = _
    rw [spots_rep o k (p + 1) j (by omega), show p + 1 + j = p + (j + 1) by omega]
theorem spots_len : ∀ (W : List (Nat × List UInt8)) (p : Nat), (spots W p).length = W.length
  | [], p => rfl
  | x :: W, p => by show (spots W _).length + 1 = _; rw [spots_len W]; rfl
theorem flat_rep (k : Nat) (o : UInt8) : (List.replicate k ((8, [o]) : Nat × List UInt8)).flatMap (·.2) = List.replicate k o := by
  induction k with
  | zero => rfl
  | succ k ih => rw [List.replicate_succ, List.flatMap_cons, ih]; rfl
theorem texts_app (l : List UInt8) (A B : List (Nat × Nat × Nat)) : texts l (A ++ B) = texts l A ++ texts l B := List.map_append
theorem texts_rep {l : List UInt8} {O : List (Nat × Nat × Nat)} {k : Nat} {o : UInt8} (h : texts l O = List.replicate k (8, [o])) : ∀ x ∈ O, sortOf l x = brk 8 [o] := by
  intro x hx
  have : (x.1, textAt l x) ∈ texts l O := List.mem_map.2 ⟨x, hx, rfl⟩
  rw [h] at this
  have := List.eq_of_mem_replicate this
  unfold sortOf
  rw [(Prod.mk.inj this).1, (Prod.mk.inj this).2]
def opA (k : Nat) (o c : UInt8) : List UInt8 := List.replicate k o ++ 120 :: List.replicate k c
def opB (k : Nat) (o : UInt8) : List UInt8 := 97 :: List.replicate k o
def pairB (o c : UInt8) : Prop := (o = 40 ∧ c = 41) ∨ (o = 91 ∧ c = 93) ∨ (o = 123 ∧ c = 125)
theorem pair_op {o c : UInt8} (h : pairB o c) : (o = 40 ∨ o = 91 ∨ o = 123 ∨ o = 41 ∨ o = 93 ∨ o = 125) ∧ (c = 40 ∨ c = 91 ∨ c = 123 ∨ c = 41 ∨ c = 93 ∨ c = 125) ∧ 0 < brk 8 [o] ∧ brk 8 [c] = -brk 8 [o] ∧ (0 < o.toNat ∧ o.toNat < 128) ∧ (0 < c.toNat ∧ c.toNat < 128) := by
  rcases h with ⟨rfl, rfl⟩ | ⟨rfl, rfl⟩ | ⟨rfl, rfl⟩ <;> decide
theorem head_rep {c : UInt8} (hc : c = 40 ∨ c = 91 ∨ c = 123 ∨ c = 41 ∨ c = 93 ∨ c = 125) (k : Nat) : List.replicate k c = [] ∨ ∃ d u, List.replicate k c = d :: u ∧ (d = 40 ∨ d = 91 ∨ d = 123 ∨ d = 41 ∨ d = 93 ∨ d = 125) := by
  cases k with
  | zero => exact .inl rfl
  | succ k => exact .inr ⟨c, _, List.replicate_succ, hc⟩
theorem tokAt_app {A B : List (Nat × Nat × Nat)} {j : Nat} {x : Nat × Nat × Nat} (h : A[j]? = some x) : tokAt (A ++ B) j = x := by
  unfold tokAt
  rw [List.getElem?_append_left (List.getElem?_eq_some_iff.1 h).1, h]; rfl
theorem nest_one {l : List UInt8} {S : List (Nat × Nat × Nat)} {e f : Int} {P : List Int} {m : Nat} (hs : semAns l = (S, 0, 0)) (h : nestGo l S S 0 [] 0 (List.replicate S.length 0) = (e, f, P, m)) : (nestAns l).2.2 = if e = 0 then (m, 0, 0) else (0, e, f) := by
  rw [nest_good hs h]
  dsimp only
  split <;> rfl
/-- so many brackets, a name, so many brackets that shut -/
theorem deep_a {o c : UInt8} (h : pairB o c) (k : Nat) (hk : k ≤ 1000) : (nestAns (opA k o c)).2.2 = if 100 < k then (0, 6, 100) else (k, 0, 0) := by
  obtain ⟨q1, q2, q3, q4, q5, q6⟩ := pair_op h
  have hL : Lexes (List.replicate k (8, [o]) ++ (1, [120]) :: List.replicate k (8, [c])) (opA k o c) := by
    have hc := lexes_brackets q2 (V := []) (t := []) rfl k
    rw [List.append_nil, List.append_nil] at hc
    have hx : Lexes ((1, [120]) :: List.replicate k (8, [c])) (120 :: List.replicate k c) := ⟨List.replicate k c, rfl, lex_letter (.inl rfl) _ (head_rep q2 k), Nat.succ_ne_zero 0, wide_one (by decide) _, hc⟩
    exact lexes_brackets q1 hx k
  have hP : Plain (opA k o c) := plain_ascii (by
    intro d hd
    unfold opA at hd
    rcases List.mem_append.1 hd with hd | hd
    · rw [List.eq_of_mem_replicate hd]; exact q5
    rcases List.mem_cons.1 hd with rfl | hd
    · decide
    · rw [List.eq_of_mem_replicate hd]; exact q6)
  obtain ⟨h1, h2⟩ := all_spots hL hP (by unfold opA; rw [List.length_append, List.length_cons, List.length_replicate, List.length_replicate]; omega)
  generalize opA k o c = l at *
  rw [spots_app, flat_rep, List.length_replicate, Nat.zero_add] at h1 h2
  obtain ⟨O, hO⟩ : ∃ O, O = spots (List.replicate k (8, [o])) 0 := ⟨_, rfl⟩
  obtain ⟨C, hC⟩ : ∃ C, C = spots (List.replicate k (8, [c])) (k + 1) := ⟨_, rfl⟩
  have hM : spots ((1, [120]) :: List.replicate k (8, [c])) k = (1, k, k + 1) :: C := by rw [hC]; rfl
  rw [← hO, hM] at h1 h2
  have lO : O.length = k := by rw [hO, spots_len, List.length_replicate]
  have lC : C.length = k := by rw [hC, spots_len, List.length_replicate]
  have atO : ∀ j x, O[j]? = some x → x = (8, j, j + 1) := by
    intro j x hx
    have hj := (List.getElem?_eq_some_iff.1 hx).1
    rw [hO, spots_rep o k 0 j (by omega), Nat.zero_add] at hx
    injection hx with hx; exact hx.symm
  clear hO hC hM hL hP
  rw [texts_app] at h2
  obtain ⟨t1, t2⟩ := List.append_inj h2 (by unfold texts; rw [List.length_map, lO, List.length_replicate])
  have t2 : (1, textAt l (1, k, k + 1)) :: texts l C = _ := t2
  obtain ⟨t3, t4⟩ := List.cons.inj t2
  have sO := texts_rep t1
  have sC := texts_rep t4
  have sx : sortOf l (1, k, k + 1) = 0 := by unfold sortOf brk; rfl
  have kinds : ∀ x ∈ O ++ (1, k, k + 1) :: C, silentB x.1 = false := by
    intro x hx
    have : (x.1, textAt l x) ∈ texts l (O ++ (1, k, k + 1) :: C) := List.mem_map.2 ⟨x, hx, rfl⟩
    rw [texts_app, h2] at this
    rcases List.mem_append.1 this with e | e
    · rw [(Prod.mk.inj (List.eq_of_mem_replicate e)).1]; rfl
    rcases List.mem_cons.1 e with e | e
    · rw [(Prod.mk.inj e).1]; rfl
    · rw [(Prod.mk.inj (List.eq_of_mem_replicate e)).1]; rfl
  obtain ⟨U, u1, u2⟩ := sems_louds l _ none kinds
  have hs := sem_good h1
  rw [u1] at hs
  generalize brk 8 [o] = v at *
  rw [q4] at sC
  obtain ⟨S, hS⟩ : ∃ S, S = O ++ (1, k, k + 1) :: C ++ U := ⟨_, rfl⟩
  rw [← hS] at hs
  have hS' : S = O ++ ((1, k, k + 1) :: (C ++ U)) := by rw [hS, List.append_assoc]; rfl
  have tO : ∀ j x, O[j]? = some x → tokAt S (0 + j) = x := fun j x hx => by rw [hS', Nat.zero_add]; exact tokAt_app hx
  by_cases hb : 100 < k
  · rw [if_pos hb]
    have lx : 100 < O.length := by omega
    have hsp : O = O.take 100 ++ O[100] :: O.drop 101 := by
      rw [← List.drop_eq_getElem_cons lx, List.take_append_drop]
    obtain ⟨st', pr', g1, g2, g3, g4⟩ := go_opens q3 (O[100] :: (O.drop 101 ++ ((1, k, k + 1) :: (C ++ U)))) (O.take 100) 0 [] (List.replicate S.length 0) (fun x hx => sO x (List.mem_of_mem_take hx)) (fun j x hx => by
      have hj := (List.getElem?_eq_some_iff.1 hx).1
      rw [List.length_take] at hj
      rw [List.getElem?_take_of_lt (by omega)] at hx
      exact tO j x hx) (by rw [List.length_take, List.length_nil]; omega) (fun t ht => by cases ht)
    rw [List.length_nil, List.length_take, Nat.min_eq_left (by omega), Nat.zero_add] at g2
    have hgo : nestGo l S S 0 [] 0 (List.replicate S.length 0) = (6, 100, [], 0) := by
      have e : S = O.take 100 ++ O[100] :: (O.drop 101 ++ ((1, k, k + 1) :: (C ++ U))) := by
        rw [hS']; conv => lhs; rw [hsp]
        rw [List.append_assoc]; rfl
      have g1' := g1
      rw [← e, List.length_nil] at g1'
      rw [g1', go_open (by rw [sO _ (List.getElem_mem lx)]; exact q3), if_pos g2, atO 100 O[100] (List.getElem?_eq_getElem lx)]
      rfl
    rw [nest_one hs hgo]; rfl
  · rw [if_neg hb]
    obtain ⟨st', pr', g1, g2, g3, g4⟩ := go_opens q3 ((1, k, k + 1) :: (C ++ U)) O 0 [] (List.replicate S.length 0) sO tO (by rw [List.length_nil]; omega) (fun t ht => by cases ht)
    rw [List.length_nil, Nat.zero_add, lO] at g2
    obtain ⟨st2, pr2, g5, g6⟩ := go_shuts q3 U st'.length C (0 + O.length + 1) st' (pr'.set (0 + O.length) (-1)) sC (by omega) g3
    obtain ⟨i3, pr3, g7⟩ := go_end (l := l) (S := S) u2 (0 + O.length + 1 + C.length) st2 st'.length pr2
    have z : st2 = [] := List.eq_nil_of_length_eq_zero (by omega)
    have hgo : nestGo l S S 0 [] 0 (List.replicate S.length 0) = (0, 0, pr3, k) := by
      rw [← hS', List.length_nil] at g1
      rw [g1, go_other (by rw [sx]; decide) (by rw [sx]; decide), g5, g7, z, g2]
      rfl
    rw [nest_one hs hgo, if_pos rfl]
/-- a name, and so many brackets -/
theorem deep_b {o c : UInt8} (h : pairB o c) (k : Nat) (hk : k ≤ 1000) : (nestAns (opB k o)).2.2 = if 100 < k then (0, 6, 101) else if k = 0 then (0, 0, 0) else (0, 5, (k : Int)) := by
  obtain ⟨q1, q2, q3, q4, q5, q6⟩ := pair_op h
  have hL : Lexes ((1, [97]) :: List.replicate k (8, [o])) (opB k o) := by
    refine ⟨List.replicate k o, rfl, lex_letter (.inr rfl) _ (head_rep q1 k), Nat.succ_ne_zero 0, wide_one (by decide) _, ?_⟩
    have := lexes_brackets q1 (V := []) (t := []) rfl k
    rwa [List.append_nil, List.append_nil] at this
  have hP : Plain (opB k o) := plain_ascii (by
    intro d hd
    unfold opB at hd
    rcases List.mem_cons.1 hd with rfl | hd
    · decide
    · rw [List.eq_of_mem_replicate hd]; exact q5)
  obtain ⟨h1, h2⟩ := all_spots hL hP (by unfold opB; rw [List.length_cons, List.length_replicate]; omega)
  generalize opB k o = l at *
  obtain ⟨O, hO⟩ : ∃ O, O = spots (List.replicate k (8, [o])) 1 := ⟨_, rfl⟩
  have hM : spots ((1, [97]) :: List.replicate k (8, [o])) 0 = (1, 0, 1) :: O := by rw [hO]; rfl
  rw [hM] at h1 h2
  have lO : O.length = k := by rw [hO, spots_len, List.length_replicate]
  have atO : ∀ j x, O[j]? = some x → x = (8, 1 + j, 1 + j + 1) := by
    intro j x hx
    have hj := (List.getElem?_eq_some_iff.1 hx).1
    rw [hO, spots_rep o k 1 j (by omega)] at hx
    injection hx with hx; exact hx.symm
  clear hO hM hL hP
  have h2' : (1, textAt l (1, 0, 1)) :: texts l O = _ := h2
  obtain ⟨t3, t4⟩ := List.cons.inj h2'
  have sO := texts_rep t4
  have sx : sortOf l (1, 0, 1) = 0 := by unfold sortOf brk; rfl
  have kinds : ∀ x ∈ (1, 0, 1) :: O, silentB x.1 = false := by
    intro x hx
    rcases List.mem_cons.1 hx with rfl | hx
    · rfl
    have : (x.1, textAt l x) ∈ texts l O := List.mem_map.2 ⟨x, hx, rfl⟩
    rw [t4] at this
    rw [(Prod.mk.inj (List.eq_of_mem_replicate this)).1]; rfl
  obtain ⟨U, u1, u2⟩ := sems_louds l _ none kinds
  have hs := sem_good h1
  rw [u1] at hs
  generalize brk 8 [o] = v at *
  obtain ⟨S, hS⟩ : ∃ S, S = (1, 0, 1) :: O ++ U := ⟨_, rfl⟩
  rw [← hS] at hs
  have hS' : S = (1, 0, 1) :: (O ++ U) := by rw [hS]; rfl
  have tO : ∀ j x, O[j]? = some x → tokAt S (0 + 1 + j) = x := fun j x hx => by
    rw [hS', show 0 + 1 + j = j + 1 by omega]
    exact tokAt_app (A := O) (B := U) hx
  have hfirst : ∀ R, nestGo l S ((1, 0, 1) :: R) 0 [] 0 (List.replicate S.length 0) = nestGo l S R (0 + 1) [] ([] : List Nat).length ((List.replicate S.length 0).set 0 (-1)) := fun R => by
    rw [go_other (by rw [sx]; decide) (by rw [sx]; decide)]; rfl
  by_cases hb : 100 < k
  · rw [if_pos hb]
    have lx : 100 < O.length := by omega
    have hsp : O = O.take 100 ++ O[100] :: O.drop 101 := by
      rw [← List.drop_eq_getElem_cons lx, List.take_append_drop]
    obtain ⟨st', pr', g1, g2, g3, g4⟩ := go_opens q3 (O[100] :: (O.drop 101 ++ U)) (O.take 100) (0 + 1) [] ((List.replicate S.length 0).set 0 (-1)) (fun x hx => sO x (List.mem_of_mem_take hx)) (fun j x hx => by
      have hj := (List.getElem?_eq_some_iff.1 hx).1
      rw [List.length_take] at hj
      rw [List.getElem?_take_of_lt (by omega)] at hx
      exact tO j x hx) (by rw [List.length_take, List.length_nil]; omega) (fun t ht => by cases ht)
    rw [List.length_nil, List.length_take, Nat.min_eq_left (by omega), Nat.zero_add] at g2
    have hgo : nestGo l S S 0 [] 0 (List.replicate S.length 0) = (6, 101, [], 0) := by
      have e : S = (1, 0, 1) :: (O.take 100 ++ O[100] :: (O.drop 101 ++ U)) := by
        rw [hS']; conv => lhs; rw [hsp]
        rw [List.append_assoc]; rfl
      have := hfirst (O.take 100 ++ O[100] :: (O.drop 101 ++ U))
      rw [← e] at this
      rw [this, g1, go_open (by rw [sO _ (List.getElem_mem lx)]; exact q3), if_pos g2, atO 100 O[100] (List.getElem?_eq_getElem lx)]
      rfl
    rw [nest_one hs hgo]; rfl
  · rw [if_neg hb]
    obtain ⟨st', pr', g1, g2, g3, g4⟩ := go_opens q3 U O (0 + 1) [] ((List.replicate S.length 0).set 0 (-1)) sO tO (by rw [List.length_nil]; omega) (fun t ht => by cases ht)
    obtain ⟨i3, pr3, g7⟩ := go_end (l := l) (S := S) u2 (0 + 1 + O.length) st' st'.length pr'
    have hf := hfirst (O ++ U)
    rw [← hS', g1, g7] at hf
    rcases g4 with ⟨rfl, g4⟩ | ⟨u, g4⟩
    · have hk0 : k = 0 := by rw [← lO]; rfl
      rw [if_pos hk0]
      rw [g4] at hf
      rw [nest_one hs hf]; rfl
    · rw [List.length_nil] at g2
      have hk0 : k ≠ 0 := by
        rintro rfl
        rw [g4, List.length_cons, lO] at g2; omega
      rw [if_neg hk0]
      have hat := atO (k - 1) O[k - 1] (List.getElem?_eq_getElem (by omega))
      have htk := tO (k - 1) O[k - 1] (List.getElem?_eq_getElem (by omega))
      rw [hat, show 0 + 1 + (k - 1) = k by omega] at htk
      rw [lO, show 0 + 1 + k - 1 = k by omega] at g4
      rw [g4] at hf
      have hgo : nestGo l S S 0 [] 0 (List.replicate S.length 0) = (5, (k : Int), [], 0) := by
        rw [hf]
        show ((5 : Int), ((tokAt S k).2.1 : Int), ([] : List Int), 0) = _
        rw [htk]
      rw [nest_one hs hgo]; rfl
end Go.Proofs.Ytbkmlldhjchhjaa
