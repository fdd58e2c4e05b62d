/-
  Layer 7, plain: a lexeme of a clean text, read again from its own bytes alone (for the law ScanWhole).
-/
import Derived.Test.YtbkmlldhjchhjaaGreatSy
namespace Go.Proofs.YtbkmlldhjchhjaaGreat

theorem lex_again {l : List UInt8} {a f k n : Nat} (hc : cleanAt l f a = -1) (hf : l.length - a ≤ f) (ha : a < l.length) (h : lexL (l.drop a) = (k, n)) (hk : k ≠ 0) :
    lexL ((l.drop a).take n) = (k, n) ∧ wide ((l.drop a).take n) ≠ 0 ∧ cleanAt ((l.drop a).take n) n 0 = -1 := by
  obtain ⟨h0, hE, hcl⟩ := lex_end hc hf ha h hk
  have hcl0 : ∀ g, l.length - a ≤ g → cleanAt l g a = -1 := fun g hg => by rw [← cleanAt_fuel l f g a hf hg]; exact hc
  obtain ⟨hw, _, _, _⟩ := clean_step (hcl0 (l.length + 1) (by omega)) ha
  have hb : l.length ≤ a + n ∨ wide (l.drop (a + n)) ≠ 0 := by
    by_cases hlt : a + n < l.length
    · exact .inr (clean_step (hcl (l.length + 1) (by omega)) hlt).1
    · exact .inl (by omega)
  have hle := ends_ahead hw (show a < a + n by omega) hE hb
  obtain ⟨g1, g2⟩ := take_wide hw (n := n) (by omega)
  have hlen : ((l.drop a).take n).length = n := by rw [List.length_take, List.length_drop]; omega
  refine ⟨?_, by rw [g1]; exact hw, take_clean hE hb n 0 (fun f hf => hcl0 f hf) (Nat.zero_le _)⟩
  obtain ⟨t, ht⟩ : ∃ t, t = l.drop a := ⟨_, rfl⟩
  rw [← ht] at h hw g1 g2 hlen ⊢
  clear ht hcl hcl0 hb hle hc
  have hhd : (t.take n)[0]? = t[0]? := by rw [List.getElem?_take, if_pos h0]
  unfold lexL at h ⊢
  rw [g1, g2]
  by_cases c1 : chr t = 65279
  · rw [if_pos c1] at h ⊢; exact h
  rw [if_neg c1] at h ⊢
  by_cases c2 : isBlank (chr t) = true
  · rw [if_pos c2] at h ⊢
    obtain ⟨rfl, rfl⟩ := Prod.mk.inj h
    rw [span_again]
  rw [if_neg c2] at h ⊢
  by_cases c3 : [47, 47].isPrefixOf t = true
  · rw [if_pos c3] at h
    obtain ⟨rfl, rfl⟩ := Prod.mk.inj h
    rw [if_pos (pre_take (by
      obtain ⟨u, hu⟩ := List.isPrefixOf_iff_prefix.1 c3
      rw [← hu]
      show 2 ≤ lineLen (47 :: 47 :: u)
      simp [lineLen]) c3), line_again]
  rw [if_neg c3] at h
  rw [if_neg (fun e => c3 (pre_mono e))]
  by_cases c4 : [47, 42].isPrefixOf t = true
  · rw [if_pos c4] at h
    cases hb : blockLen (t.drop 2) with
    | none => rw [hb] at h; exact absurd (Prod.mk.inj h).1.symm hk
    | some j =>
      rw [hb] at h
      obtain ⟨rfl, rfl⟩ := Prod.mk.inj h
      have hu : (t.take (j + 4)).drop 2 = (t.drop 2).take (j + 2) := by rw [List.drop_take]; rfl
      rw [if_pos (pre_take (by show 2 ≤ j + 4; omega) c4), hu, block_again _ _ hb]
  rw [if_neg c4] at h
  rw [if_neg (fun e => c4 (pre_mono e))]
  by_cases c5 : inside letters (chr t) = true
  · rw [if_pos c5] at h ⊢
    obtain ⟨h1, rfl⟩ := Prod.mk.inj h
    rw [span_again, List.take_of_length_le (by rw [hlen]; exact Nat.le_refl _), h1]
  rw [if_neg c5] at h ⊢
  by_cases c6 : Num.starts t = true
  · rw [if_pos c6] at h
    by_cases c7 : Num.kindOf (t.take (Num.runLen t)) = 0
    · rw [if_pos c7] at h; exact absurd (Prod.mk.inj h).1.symm hk
    · rw [if_neg c7] at h
      obtain ⟨rfl, rfl⟩ := Prod.mk.inj h
      rw [if_pos (starts_again c6), run_again, List.take_of_length_le (by rw [hlen]; exact Nat.le_refl _), if_neg c7]
  rw [if_neg c6] at h
  rw [if_neg (fun e => c6 (starts_mono e))]
  have hma : markAt (t.take n) 0 = markAt t 0 := by unfold markAt; rw [show ((0 : Int)).toNat = 0 from rfl, hhd]
  rw [hma]
  by_cases c8 : markAt t 0 = true
  · rw [if_pos c8] at h ⊢
    cases hro : readOf t 0 with
    | none => rw [hro] at h; exact absurd (Prod.mk.inj h).1.symm hk
    | some x =>
      obtain ⟨K, L, m⟩ := x
      rw [hro] at h
      obtain ⟨rfl, rfl⟩ := Prod.mk.inj h
      have := (readOf_len hro).2.2.2.2 []
      rw [List.append_nil] at this
      rw [this]; rfl
  rw [if_neg c8] at h ⊢
  have hhd2 : (t.take n).head? = t.head? := by rw [List.head?_eq_getElem?, List.head?_eq_getElem?, hhd]
  rw [hhd2]
  by_cases c9 : t.head? = some 59
  · rw [if_pos c9] at h ⊢; exact h
  rw [if_neg c9] at h ⊢
  by_cases c10 : signLen t = 0
  · rw [if_pos c10] at h; exact absurd (Prod.mk.inj h).1.symm hk
  · rw [if_neg c10] at h
    obtain ⟨rfl, rfl⟩ := Prod.mk.inj h
    rw [sign_again c10, if_neg c10]
/-- One, over a lexeme's own bytes -/
theorem one_again {l : List UInt8} {a f : Nat} (hc : cleanAt l f a = -1) (hf : l.length - a ≤ f) (ha : a < l.length) (hk : (lexV l a).1 ≠ 0) :
    oneAns ((l.drop a).take ((lexV l a).2 - a)) 0 = (#[.int .u8 (lexV l a).1, .int .i64 0, .int .i64 ((lexV l a).2 - a : Nat)], 0) := by
  obtain ⟨⟨k, n⟩, hp⟩ : ∃ p, p = lexL (l.drop a) := ⟨_, rfl⟩
  by_cases h0 : k = 0
  · subst h0
    rw [lexV_none hp.symm] at hk
    exact absurd rfl hk
  · obtain ⟨h1, h2, h3⟩ := lex_again hc hf ha hp.symm h0
    obtain ⟨g1, g2, _⟩ := lex_end hc hf ha hp.symm h0
    rw [lexV_some hp.symm h0]
    show oneAns ((l.drop a).take (a + n - a)) 0 = (#[.int .u8 k, .int .i64 0, .int .i64 ((a + n - a : Nat) : Int)], 0)
    rw [show a + n - a = n by omega]
    have hlen : ((l.drop a).take n).length = n := by rw [List.length_take, List.length_drop]; omega
    have hv : lexV ((l.drop a).take n) 0 = (k, 0 + n) := lexV_some (by rw [List.drop_zero]; exact h1) h0
    unfold oneAns
    rw [hlen, if_neg (by omega), show ((0 : Int)).toNat = 0 from rfl, List.drop_zero, h3, if_neg (by rintro (e | e); exact h2 e; omega), hv, Nat.zero_add]
    unfold tokRow tokErr
    rw [if_neg h0, if_neg h0]; rfl
/-- lexemes that cover a clean text from a place on -/
def Tiles (l : List UInt8) : Nat → List (Nat × Nat × Nat) → Prop
  | p, [] => p = l.length
  | p, x :: T => x = ((lexV l p).1, p, (lexV l p).2) ∧ (lexV l p).1 ≠ 0 ∧ p < (lexV l p).2 ∧ (lexV l p).2 ≤ l.length ∧ (∀ g, l.length - p ≤ g → cleanAt l g p = -1) ∧ Tiles l (lexV l p).2 T
theorem toks_tiles (l : List UInt8) : ∀ f p, (∀ g, l.length - p ≤ g → cleanAt l g p = -1) → p ≤ l.length → l.length - p ≤ f → (toks l f p).2 = none → Tiles l p (toks l f p).1
  | 0, p, _, hp, hf, _ => by show p = l.length; omega
  | f + 1, p, hc, hp, hf, h => by
    by_cases hlt : p < l.length
    · rw [toks_step l f p hlt] at h ⊢
      by_cases hk : (lexV l p).1 = 0
      · rw [if_pos hk] at h; cases h
      · rw [if_neg hk] at h ⊢
        obtain ⟨h1, h2, h3⟩ := lexV_end (hc l.length (by omega)) (by omega) hlt hk
        exact ⟨rfl, hk, h1, h2, hc, toks_tiles l f _ h3 h2 (by omega) h⟩
    · rw [toks_end l (f + 1) p hlt]
      show p = l.length; omega
end Go.Proofs.YtbkmlldhjchhjaaGreat
