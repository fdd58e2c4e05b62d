/-
  Layer 9, plain: partners stand within one another (for the law NestWithin).
-/
import Derived.Test.YtbkmlldhjchhjaaGreatTr
namespace Go.Proofs.YtbkmlldhjchhjaaGreat

/-- what holds of partners when the first i tokens are read -/
structure Inv (n i : Nat) (st : List Nat) (pr : List Int) : Prop where
  len : pr.length = n
  sorted : st.Pairwise (· > ·)
  open_ : ∀ t ∈ st, t < i ∧ pr[t]? = some (-1)
  each : ∀ j : Nat, j < i → ∃ v, pr[j]? = some v ∧ (v = -1 ∨ ∃ q : Nat, v = (q : Int) ∧ q < i ∧ q ≠ j ∧ pr[q]? = some (j : Int))
  pair : ∀ j q : Nat, j < q → q < i → pr[j]? = some (q : Int) → (∀ t ∈ st, ¬ (j < t ∧ t < q)) ∧ ∀ (k : Nat) (v : Int), j < k → k < q → pr[k]? = some v → v = -1 ∨ ((j : Int) < v ∧ v < q)
theorem set_at {pr : List Int} {i : Nat} (h : i < pr.length) (x : Int) : (pr.set i x)[i]? = some x := by
  rw [List.getElem?_set, if_pos rfl, if_pos h]
theorem set_far {pr : List Int} {i j : Nat} (h : i ≠ j) (x : Int) : (pr.set i x)[j]? = pr[j]? := by
  rw [List.getElem?_set, if_neg h]
theorem inv_skip {n i : Nat} {st : List Nat} {pr : List Int} (h : Inv n i st pr) (hi : i < n) : Inv n (i + 1) st (pr.set i (-1)) := by
  obtain ⟨h1, h2, h3, h4, h5⟩ := h
  refine ⟨by rw [List.length_set]; exact h1, h2, fun t ht => ?_, fun j hj => ?_, fun j q hjq hq hp => ?_⟩
  · obtain ⟨a, b⟩ := h3 t ht
    exact ⟨by omega, by rw [set_far (by omega)]; exact b⟩
  · by_cases he : i = j
    · subst he
      exact ⟨-1, set_at (by omega) _, .inl rfl⟩
    · obtain ⟨v, a, b⟩ := h4 j (by omega)
      refine ⟨v, by rw [set_far he]; exact a, ?_⟩
      rcases b with b | ⟨q, b1, b2, b3, b4⟩
      · exact .inl b
      · exact .inr ⟨q, b1, by omega, b3, by rw [set_far (by omega)]; exact b4⟩
  · have he : i ≠ j := by omega
    rw [set_far he] at hp
    have hqi : q < i := by
      obtain ⟨v, a, b⟩ := h4 j (by omega)
      rw [hp] at a
      have a : (q : Int) = v := by injection a
      rcases b with b | ⟨q', b1, b2, _, _⟩
      · omega
      · omega
    obtain ⟨g1, g2⟩ := h5 j q hjq hqi hp
    exact ⟨g1, fun k v hk1 hk2 hv => g2 k v hk1 hk2 (by rw [← set_far (i := i) (j := k) (by omega) (-1)]; exact hv)⟩
theorem inv_push {n i : Nat} {st : List Nat} {pr : List Int} (h : Inv n (i + 1) st pr) (hs : ∀ t ∈ st, t < i) (hp : pr[i]? = some (-1)) : Inv n (i + 1) (i :: st) pr := by
  obtain ⟨h1, h2, h3, h4, h5⟩ := h
  refine ⟨h1, List.pairwise_cons.2 ⟨fun t ht => hs t ht, h2⟩, fun t ht => ?_, h4, fun j q hjq hq hp => ?_⟩
  · rcases List.mem_cons.1 ht with rfl | ht
    · exact ⟨by omega, hp⟩
    · exact h3 t ht
  · obtain ⟨g1, g2⟩ := h5 j q hjq hq hp
    refine ⟨fun t ht => ?_, g2⟩
    rcases List.mem_cons.1 ht with rfl | ht
    · omega
    · exact g1 t ht
theorem inv_pop {n i t : Nat} {st : List Nat} {pr : List Int} (h : Inv n (i + 1) (t :: st) pr) (hi : i < n) (ht : t < i) (hp : pr[i]? = some (-1)) : Inv n (i + 1) st ((pr.set t (i : Int)).set i (t : Int)) := by
  obtain ⟨h1, h2, h3, h4, h5⟩ := h
  obtain ⟨h2a, h2b⟩ := List.pairwise_cons.1 h2
  have htp := (h3 t (List.mem_cons_self ..)).2
  have gi : ((pr.set t (i : Int)).set i (t : Int))[i]? = some (t : Int) := set_at (by rw [List.length_set]; omega) _
  have gt : ((pr.set t (i : Int)).set i (t : Int))[t]? = some (i : Int) := by rw [set_far (by omega), set_at (by omega)]
  have gf : ∀ k, k ≠ i → k ≠ t → ((pr.set t (i : Int)).set i (t : Int))[k]? = pr[k]? := fun k a b => by rw [set_far (by omega), set_far (by omega)]
  refine ⟨by rw [List.length_set, List.length_set]; exact h1, h2b, fun u hu => ?_, fun j hj => ?_, fun j q hjq hq hv => ?_⟩
  · obtain ⟨a, b⟩ := h3 u (List.mem_cons_of_mem _ hu)
    have hut : t > u := h2a u hu
    exact ⟨a, by rw [gf u (by omega) (by omega)]; exact b⟩
  · by_cases hji : j = i
    · subst hji
      exact ⟨t, gi, .inr ⟨t, rfl, by omega, by omega, gt⟩⟩
    by_cases hjt : j = t
    · subst hjt
      exact ⟨i, gt, .inr ⟨i, rfl, by omega, by omega, gi⟩⟩
    · obtain ⟨v, a, b⟩ := h4 j hj
      refine ⟨v, by rw [gf j hji hjt]; exact a, ?_⟩
      rcases b with b | ⟨q, b1, b2, b3, b4⟩
      · exact .inl b
      · refine .inr ⟨q, b1, b2, b3, ?_⟩
        rw [gf q (by rintro rfl; rw [hp] at b4; injection b4 with b4; omega) (by rintro rfl; rw [htp] at b4; injection b4 with b4; omega)]
        exact b4
  · by_cases hji : j = i
    · omega
    by_cases hjt : j = t
    · subst hjt
      rw [gt] at hv
      have hqi : i = q := by injection hv with hv; omega
      subst hqi
      refine ⟨fun u hu => ?_, fun k v hk1 hk2 hkv => ?_⟩
      · have : j > u := h2a u hu
        omega
      · rw [gf k (by omega) (by omega)] at hkv
        obtain ⟨v', a, b⟩ := h4 k (by omega)
        rw [hkv] at a
        have a : v = v' := by injection a
        subst a
        rcases b with b | ⟨q', b1, b2, b3, b4⟩
        · exact .inl b
        · right
          have n1 : q' ≠ i := by rintro rfl; rw [hp] at b4; injection b4 with b4; omega
          have n2 : q' ≠ j := by rintro rfl; rw [htp] at b4; injection b4 with b4; omega
          have n3 : ¬ q' < j := by
            intro hlt
            exact (h5 q' k (by omega) (by omega) b4).1 j (List.mem_cons_self ..) ⟨hlt, hk1⟩
          omega
    · rw [gf j hji hjt] at hv
      obtain ⟨g1, g2⟩ := h5 j q hjq hq hv
      refine ⟨fun u hu => g1 u (List.mem_cons_of_mem _ hu), fun k v hk1 hk2 hkv => ?_⟩
      have n1 : k ≠ i := by omega
      have n2 : k ≠ t := by rintro rfl; exact g1 k (List.mem_cons_self ..) ⟨hk1, hk2⟩
      rw [gf k n1 n2] at hkv
      exact g2 k v hk1 hk2 hkv
theorem nest_inv (l : List UInt8) (S : List (Nat × Nat × Nat)) : ∀ (R : List (Nat × Nat × Nat)) (i : Nat) (st : List Nat) (most : Nat) (pr P : List Int) (f : Int) (m : Nat), i + R.length = S.length → Inv S.length i st pr → nestGo l S R i st most pr = (0, f, P, m) → Inv S.length S.length [] P
  | [], i, [], most, pr, P, f, m, hl, h, hg => by
    have hg : ((0 : Int), (0 : Int), pr, most) = (0, f, P, m) := hg
    have hP : pr = P := by injection hg with _ hg; injection hg with _ hg; injection hg
    rw [List.length_nil, Nat.add_zero] at hl
    rw [← hP, ← hl]
    rw [← hl] at h; exact h
  | [], i, t :: st, most, pr, P, f, m, _, _, hg => by
    have hg : ((5 : Int), ((tokAt S t).2.1 : Int), ([] : List Int), 0) = (0, f, P, m) := hg
    injection hg with hg; exact absurd hg (by decide)
  | x :: R, i, st, most, pr, P, f, m, hl, h, hg => by
    rw [List.length_cons] at hl
    have hi : i < S.length := by omega
    have h' := inv_skip h hi
    have hpi : (pr.set i (-1))[i]? = some (-1) := set_at (by rw [h.len]; exact hi) _
    by_cases hpos : 0 < sortOf l x
    · rw [go_open hpos] at hg
      by_cases hf : st.length = 100
      · rw [if_pos hf] at hg; injection hg with hg; exact absurd hg (by decide)
      · rw [if_neg hf] at hg
        exact nest_inv l S R _ _ _ _ P f m (by omega) (inv_push h' (fun t ht => (h.open_ t ht).1) hpi) hg
    by_cases hneg : sortOf l x < 0
    · cases st with
      | nil => rw [go_none hneg] at hg; injection hg with hg; exact absurd hg (by decide)
      | cons t st =>
        rw [go_shut hneg] at hg
        by_cases hz : sortOf l (tokAt S t) + sortOf l x = 0
        · rw [if_pos hz] at hg
          exact nest_inv l S R _ _ _ _ P f m (by omega) (inv_pop h' hi (h.open_ t (List.mem_cons_self ..)).1 hpi) hg
        · rw [if_neg hz] at hg; injection hg with hg; exact absurd hg (by decide)
    · rw [go_other hpos hneg] at hg
      exact nest_inv l S R _ _ _ _ P f m (by omega) h' hg
theorem inv_start (n : Nat) : Inv n 0 [] (List.replicate n 0) :=
  ⟨List.length_replicate, List.Pairwise.nil, (fun t h => by cases h), fun j h => absurd h (Nat.not_lt_zero _), fun j q _ h => absurd h (Nat.not_lt_zero _)⟩
/-- what nest.Of answers: a fault, or partners -/
theorem nest_cases (l : List UInt8) : (∃ f g : Int, nestAns l = ([], [], 0, f, g) ∧ f ≠ 0) ∨ ∃ S P m, nestAns l = (S, P, m, 0, 0) ∧ semAns l = (S, 0, 0) ∧ nestGo l S S 0 [] 0 (List.replicate S.length 0) = (0, 0, P, m) ∧ P.length = S.length := by
  rcases all_cases l with ⟨f, g, h1, h2, _, _⟩ | ⟨T, h1, h2, h3⟩
  · exact .inl ⟨f, g, nest_bad (sem_bad h1 h2) h2, h2⟩
  · have hs := sem_good h1
    obtain ⟨S, hS⟩ : ∃ S, S = sems l none T := ⟨_, rfl⟩
    rw [← hS] at hs
    obtain ⟨⟨e, f, P, m⟩, hR⟩ : ∃ R, R = nestGo l S S 0 [] 0 (List.replicate S.length 0) := ⟨_, rfl⟩
    have ha := nest_good hs hR.symm
    by_cases he : e = 0
    · subst he
      rw [if_pos rfl] at ha
      have hinv := nest_inv l S S 0 [] 0 _ P f m (by omega) (inv_start _) hR.symm
      have hf : f = 0 := by
        have : ∀ (R : List (Nat × Nat × Nat)) (i : Nat) (st : List Nat) (most : Nat) (pr : List Int), nestGo l S R i st most pr = (0, f, P, m) → f = 0 := by
          intro R
          induction R with
          | nil =>
            intro i st most pr hg
            cases st with
            | nil => have hg : ((0 : Int), (0 : Int), pr, most) = (0, f, P, m) := hg; injection hg with _ hg; injection hg with hg; exact hg.symm
            | cons t st => have hg : ((5 : Int), ((tokAt S t).2.1 : Int), ([] : List Int), 0) = (0, f, P, m) := hg; injection hg with hg; exact absurd hg (by decide)
          | cons x R ih =>
            intro i st most pr hg
            by_cases hpos : 0 < sortOf l x
            · rw [go_open hpos] at hg
              split at hg
              · injection hg with hg; exact absurd hg (by decide)
              · exact ih _ _ _ _ hg
            by_cases hneg : sortOf l x < 0
            · cases st with
              | nil => rw [go_none hneg] at hg; injection hg with hg; exact absurd hg (by decide)
              | cons t st =>
                rw [go_shut hneg] at hg
                split at hg
                · exact ih _ _ _ _ hg
                · injection hg with hg; exact absurd hg (by decide)
            · rw [go_other hpos hneg] at hg
              exact ih _ _ _ _ hg
        exact this _ _ _ _ _ hR.symm
      rw [hf] at hR
      exact .inr ⟨S, P, m, ha, hs, hR.symm, hinv.len⟩
    · rw [if_neg he] at ha
      exact .inl ⟨e, f, ha, he⟩
end Go.Proofs.YtbkmlldhjchhjaaGreat
