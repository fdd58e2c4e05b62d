/-
  Layer 7, plain: a lexeme of a clean text ends at a character.
-/
import Derived.Test.YtbkmlldhjchhjaaGreatSn
namespace Go.Proofs.YtbkmlldhjchhjaaGreat

theorem clean_at {l : List UInt8} {f pos p g : Nat} (hc : cleanAt l f pos = -1) (hf : l.length - pos ≤ f) (hp : pos ≤ p) {c : UInt8} (hb : l[p]? = some c) (hc7 : c.toNat < 128) (hg : l.length - p ≤ g) : cleanAt l g p = -1 := by
  obtain ⟨h1, h2⟩ := List.getElem?_eq_some_iff.1 hb
  have hd : l.drop p = c :: l.drop (p + 1) := by rw [List.drop_eq_getElem_cons h1, h2]
  have hw := (ascii_head c (l.drop (p + 1)) hc7).1
  rw [← hd] at hw
  exact clean_sub l f pos p g hc hf hp (.inr (by omega)) hg
theorem clean_after {l : List UInt8} {f pos p g : Nat} (hc : cleanAt l f pos = -1) (hf : l.length - pos ≤ f) (hp : pos ≤ p) {c : UInt8} (hb : l[p]? = some c) (hc7 : c.toNat < 128) (hg : l.length - (p + 1) ≤ g) : cleanAt l g (p + 1) = -1 := by
  have h := clean_at (g := l.length + 1) hc hf hp hb hc7 (by omega)
  obtain ⟨h1, h2⟩ := List.getElem?_eq_some_iff.1 hb
  have hd : l.drop p = c :: l.drop (p + 1) := by rw [List.drop_eq_getElem_cons h1, h2]
  have hw := (ascii_head c (l.drop (p + 1)) hc7).1
  rw [← hd] at hw
  obtain ⟨_, _, _, h4⟩ := clean_step h h1
  rw [hw] at h4
  rw [← cleanAt_fuel l l.length g (p + 1) (by omega) hg]; exact h4
theorem span_clean (q : Int → Bool) (l : List UInt8) : ∀ n pos g, (∀ g, l.length - pos ≤ g → cleanAt l g pos = -1) → l.length - spanAt q l n pos ≤ g → cleanAt l g (spanAt q l n pos) = -1
  | 0, pos, g, h, hg => h g hg
  | n + 1, pos, g, h, hg => by
    unfold spanAt at hg ⊢
    split
    · rename_i hp
      rw [if_pos hp] at hg
      split
      · rename_i hb
        rw [if_pos hb] at hg
        exact h g hg
      · rename_i hb
        rw [if_neg hb] at hg
        refine span_clean q l n _ g (fun g' hg' => ?_) hg
        obtain ⟨_, _, _, h4⟩ := clean_step (h (l.length + 1) (by omega)) hp
        rw [← cleanAt_fuel l l.length g' _ (by omega) hg']; exact h4
    · rename_i hp
      rw [if_neg hp] at hg
      exact h g hg
theorem spanLen_pos {q : Int → Bool} {t : List UInt8} (hw : wide t ≠ 0) (hq : q (chr t) = true) : 0 < spanLen q t := by
  have hne : t ≠ [] := fun e => hw (by rw [e]; unfold wide; rw [if_pos (.inl rfl)])
  obtain ⟨m, hm⟩ : ∃ m, t.length = m + 1 := ⟨t.length - 1, by have := List.length_pos_iff.2 hne; omega⟩
  unfold spanLen
  rw [hm]
  unfold spanAt
  have hd : t.drop 0 = t := rfl
  rw [if_pos (by omega), hd, if_neg (by rw [hq]; rintro (h | h); exact hw h; exact absurd h (by decide))]
  have := (spanAt_le q t m (0 + wide t) (by have := (wide_le t).2; omega)).1
  omega
theorem lineLen_byte : ∀ t : List UInt8, lineLen t = t.length ∨ t[lineLen t]? = some 10
  | [] => .inl rfl
  | c :: t => by
    unfold lineLen
    split
    · rename_i h; exact .inr (by rw [h]; rfl)
    · rcases lineLen_byte t with h | h
      · exact .inl (by rw [h, List.length_cons])
      · exact .inr (by rw [List.getElem?_cons_succ]; exact h)
theorem blockLen_byte : ∀ (t : List UInt8) (j : Nat), blockLen t = some j → t[j + 1]? = some 47
  | [], j, h => by cases h
  | c :: t, j, h => by
    unfold blockLen at h
    split at h
    · rename_i hp
      obtain ⟨u, hu⟩ := List.isPrefixOf_iff_prefix.1 hp
      have : j = 0 := by injection h with h; exact h.symm
      rw [this, ← hu]; rfl
    · cases hb : blockLen t with
      | none => rw [hb] at h; cases h
      | some i =>
        rw [hb] at h
        have : j = i + 1 := by injection h with h; exact h.symm
        rw [this, List.getElem?_cons_succ]
        exact blockLen_byte t i hb
theorem run_holds (f : Nat → Bool) : ∀ n i j, i ≤ j → j < Num.runFrom f n i → f j = true
  | 0, i, j, h1, h2 => by unfold Num.runFrom at h2; omega
  | n + 1, i, j, h1, h2 => by
    unfold Num.runFrom at h2
    split at h2
    · rename_i hf
      by_cases he : j = i
      · rw [he]; exact hf
      · exact run_holds f n (i + 1) j (by omega) h2
    · omega
theorem tail_ascii {c : UInt8} (h : Num.tail? c = true) : c.toNat < 128 := by
  have := Num.tail_cases h
  omega
theorem goes_ascii {hex : Bool} {t : List UInt8} {j : Nat} (h : Num.goesOn hex t j = true) : ∃ c, t[j]? = some c ∧ c.toNat < 128 := by
  cases j with
  | zero =>
    unfold Num.goesOn at h
    cases hc : t[0]? with
    | none => rw [hc] at h; cases h
    | some c => rw [hc] at h; exact ⟨c, rfl, tail_ascii h⟩
  | succ j =>
    unfold Num.goesOn at h
    dsimp only at h
    cases hc : t[j + 1]? with
    | none => rw [hc] at h; cases h
    | some c =>
      refine ⟨c, rfl, ?_⟩
      cases hd : t[j]? with
      | none => rw [hc, hd] at h; cases h
      | some d =>
        rw [hc, hd] at h
        simp only [Bool.or_eq_true, Bool.and_eq_true, decide_eq_true_eq] at h
        rcases h with h | ⟨h | h, _⟩
        · exact tail_ascii h
        · rw [h]; decide
        · rw [h]; decide
theorem run_last {t : List UInt8} (h : Num.starts t = true) : ∃ c, t[Num.runLen t - 1]? = some c ∧ c.toNat < 128 := by
  have h0 := Num.runLen_pos h
  refine goes_ascii (hex := Num.head? 120 88 t) (run_holds _ t.length 0 _ (by omega) ?_)
  show Num.runLen t - 1 < Num.runLen t
  omega
theorem signs_ascii : ∀ x ∈ signs, ∀ c ∈ x, c.toNat < 128 := by decide
theorem sign_last {t : List UInt8} (h : signLen t ≠ 0) : signLen t ≤ t.length ∧ ∃ c, t[signLen t - 1]? = some c ∧ c.toNat < 128 := by
  obtain ⟨h1, h2, h3, _⟩ := bestAt_is t 47 (Nat.le_refl _)
  rw [best_sign] at h1 h2 h3
  refine ⟨h2, ?_⟩
  have hm : t.take (signLen t) ∈ signs := List.contains_iff_mem.1 (h3 h)
  have hlt : signLen t - 1 < t.length := by omega
  refine ⟨t[signLen t - 1], List.getElem?_eq_getElem hlt, ?_⟩
  refine signs_ascii _ hm _ ?_
  have : (t.take (signLen t))[signLen t - 1]? = some t[signLen t - 1] := by
    rw [List.getElem?_take, if_pos (by omega), List.getElem?_eq_getElem hlt]
  exact List.mem_of_getElem? this
theorem at_drop {l : List UInt8} {a i : Nat} {c : UInt8} (h : (l.drop a)[i]? = some c) : l[a + i]? = some c := by
  rw [List.getElem?_drop] at h; exact h
/-- a lexeme of a clean text: it has bytes, and ends at a character -/
theorem lex_end {l : List UInt8} {a f k n : Nat} (hc : cleanAt l f a = -1) (hf : l.length - a ≤ f) (ha : a < l.length) (h : lexL (l.drop a) = (k, n)) (hk : k ≠ 0) :
    0 < n ∧ a + n ≤ l.length ∧ ∀ g, l.length - (a + n) ≤ g → cleanAt l g (a + n) = -1 := by
  have hcl : ∀ g, l.length - a ≤ g → cleanAt l g a = -1 := fun g hg => by rw [← cleanAt_fuel l f g a hf hg]; exact hc
  obtain ⟨hw, _, _, hstep⟩ := clean_step (hcl (l.length + 1) (by omega)) ha
  have hdl : (l.drop a).length = l.length - a := List.length_drop
  have hspan : ∀ q, q (chr (l.drop a)) = true → 0 < spanLen q (l.drop a) ∧ a + spanLen q (l.drop a) ≤ l.length ∧ ∀ g, l.length - (a + spanLen q (l.drop a)) ≤ g → cleanAt l g (a + spanLen q (l.drop a)) = -1 := fun q hq => by
    have h1 := spanLen_le q (l.drop a)
    refine ⟨spanLen_pos hw hq, by omega, fun g hg => ?_⟩
    rw [← spanAt_len q l l.length a (by omega)] at hg ⊢
    exact span_clean q l l.length a g hcl hg
  have hbyte : ∀ m c, 0 < m → (l.drop a)[m - 1]? = some c → c.toNat < 128 → 0 < m ∧ a + m ≤ l.length ∧ ∀ g, l.length - (a + m) ≤ g → cleanAt l g (a + m) = -1 := fun m c h0 hb h7 => by
    have hb' := at_drop hb
    have hlt := (List.getElem?_eq_some_iff.1 hb').1
    refine ⟨h0, by omega, fun g hg => ?_⟩
    have he : a + m = a + (m - 1) + 1 := by omega
    rw [he] at hg ⊢
    exact clean_after hc hf (by omega) hb' h7 hg
  unfold lexL at h
  split at h
  · obtain ⟨rfl, rfl⟩ := Prod.mk.inj h
    have h1 := (wide_le (l.drop a)).2
    exact ⟨by omega, by omega, fun g hg => by rw [← cleanAt_fuel l l.length g _ (by omega) hg]; exact hstep⟩
  split at h
  · rename_i hb
    obtain ⟨rfl, rfl⟩ := Prod.mk.inj h
    exact hspan _ hb
  split at h
  · rename_i hp
    obtain ⟨rfl, rfl⟩ := Prod.mk.inj h
    have h1 := lineLen_le (l.drop a)
    refine ⟨?_, by omega, fun g hg => ?_⟩
    · obtain ⟨u, hu⟩ := List.isPrefixOf_iff_prefix.1 hp
      rw [← hu]
      show 0 < lineLen (47 :: 47 :: u)
      simp [lineLen]
    · rcases lineLen_byte (l.drop a) with h2 | h2
      · exact cleanAt_end l g _ (by omega)
      · exact clean_at hc hf (by omega) (at_drop h2) (by decide) hg
  split at h
  · cases hb : blockLen ((l.drop a).drop 2) with
    | none => rw [hb] at h; exact absurd (Prod.mk.inj h).1.symm hk
    | some j =>
      rw [hb] at h
      obtain ⟨rfl, rfl⟩ := Prod.mk.inj h
      have h2 := blockLen_byte _ _ hb
      rw [List.getElem?_drop] at h2
      exact hbyte (j + 4) 47 (by omega) (by rw [show j + 4 - 1 = 2 + (j + 1) by omega]; exact h2) (by decide)
  split at h
  · rename_i hlt
    obtain ⟨_, rfl⟩ := Prod.mk.inj h
    exact hspan isPart (by unfold isPart; rw [hlt]; rfl)
  split at h
  · rename_i hst
    split at h
    · exact absurd (Prod.mk.inj h).1.symm hk
    · obtain ⟨_, rfl⟩ := Prod.mk.inj h
      obtain ⟨c, h1, h2⟩ := run_last hst
      exact hbyte _ c (Num.runLen_pos hst) h1 h2
  split at h
  · rename_i hma
    cases hro : readOf (l.drop a) 0 with
    | none => rw [hro] at h; exact absurd (Prod.mk.inj h).1.symm hk
    | some x =>
      obtain ⟨K, L, m⟩ := x
      rw [hro] at h
      obtain ⟨_, rfl⟩ := Prod.mk.inj h
      obtain ⟨h1, h2, h3, _⟩ := readOf_len hro
      unfold markAt at hma
      obtain ⟨c, hc0⟩ : ∃ c, (l.drop a)[0]? = some c := ⟨(l.drop a)[0]'(by omega), List.getElem?_eq_getElem _⟩
      refine hbyte m c (by omega) (h3.trans hc0) ?_
      rw [show ((0 : Int)).toNat = 0 from rfl, hc0] at hma
      have hma' : mark? c = true := hma
      unfold mark? at hma'
      simp only [Bool.or_eq_true, decide_eq_true_eq] at hma'
      rcases hma' with (h | h) | h <;> (rw [h]; decide)
  split at h
  · rename_i h59
    obtain ⟨rfl, rfl⟩ := Prod.mk.inj h
    exact hbyte 1 59 (by omega) (by rw [← h59, List.head?_eq_getElem?]) (by decide)
  split at h
  · exact absurd (Prod.mk.inj h).1.symm hk
  · rename_i hs0
    obtain ⟨_, rfl⟩ := Prod.mk.inj h
    obtain ⟨_, c, h1, h2⟩ := sign_last hs0
    exact hbyte _ c (by omega) h1 h2
theorem lexV_end {l : List UInt8} {a f : Nat} (hc : cleanAt l f a = -1) (hf : l.length - a ≤ f) (ha : a < l.length) (hk : (lexV l a).1 ≠ 0) :
    a < (lexV l a).2 ∧ (lexV l a).2 ≤ l.length ∧ ∀ g, l.length - (lexV l a).2 ≤ g → cleanAt l g (lexV l a).2 = -1 := by
  obtain ⟨p, hp⟩ : ∃ p, p = lexL (l.drop a) := ⟨_, rfl⟩
  obtain ⟨k, n⟩ := p
  by_cases h0 : k = 0
  · subst h0
    rw [lexV_none hp.symm] at hk
    exact absurd rfl hk
  · obtain ⟨h1, h2, h3⟩ := lex_end hc hf ha hp.symm h0
    rw [lexV_some hp.symm h0]
    exact ⟨by show a < a + n; omega, h2, h3⟩
end Go.Proofs.YtbkmlldhjchhjaaGreat
