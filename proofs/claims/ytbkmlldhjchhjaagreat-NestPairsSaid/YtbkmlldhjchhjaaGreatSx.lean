/-
  Layer 7, plain: a piece of a clean text that ends at a character is clean (for the law ScanWhole).
-/
import Derived.Test.YtbkmlldhjchhjaaGreatSt
namespace Go.Proofs.YtbkmlldhjchhjaaGreat

theorem take_wide {t : List UInt8} (h : wide t ≠ 0) {n : Nat} (hn : wide t ≤ n) : wide (t.take n) = wide t ∧ chr (t.take n) = chr t := by
  obtain ⟨hs, hc⟩ := chr_split h
  have hl := (chr_form h).2
  have h1 : t.take n = form (chr t) ++ (t.drop (wide t)).take (n - wide t) := by
    conv => lhs; rw [hs]
    rw [List.take_append, hl, List.take_of_length_le (by omega)]
  obtain ⟨g1, g2⟩ := wide_form hc ((t.drop (wide t)).take (n - wide t))
  rw [h1, g1, g2, hl]
  exact ⟨rfl, rfl⟩
/-- a character that begins ahead of a boundary ends there at the latest -/
theorem ends_ahead {l : List UInt8} {p e : Nat} (hw : wide (l.drop p) ≠ 0) (hpe : p < e) (hel : e ≤ l.length) (hb : l.length ≤ e ∨ wide (l.drop e) ≠ 0) : p + wide (l.drop p) ≤ e := by
  have hd := drop_wide (l := l) (pos := p) (by omega)
  rcases hb with hb | hb
  · omega
  · by_cases h : p + wide (l.drop p) ≤ e
    · exact h
    · have h0 := within_none hw (j := e - p) (by omega) (by omega)
      rw [List.drop_drop, show p + (e - p) = e by omega] at h0
      exact absurd h0 hb
theorem take_clean {l : List UInt8} {a n : Nat} (hE : a + n ≤ l.length) (hb : l.length ≤ a + n ∨ wide (l.drop (a + n)) ≠ 0) :
    ∀ g j, (∀ f, l.length - (a + j) ≤ f → cleanAt l f (a + j) = -1) → j ≤ n → cleanAt ((l.drop a).take n) g j = -1
  | 0, _, _, _ => rfl
  | g + 1, j, hc, hj => by
    have hlen : ((l.drop a).take n).length = n := by rw [List.length_take, List.length_drop]; omega
    by_cases h : j < n
    · obtain ⟨h1, h2, h3, h4⟩ := clean_step (hc (l.length + 1) (by omega)) (by omega)
      have he := ends_ahead h1 (show a + j < a + n by omega) hE hb
      have hd : ((l.drop a).take n).drop j = (l.drop (a + j)).take (n - j) := by rw [List.drop_take, List.drop_drop]
      obtain ⟨g1, g2⟩ := take_wide h1 (n := n - j) (by omega)
      rw [cleanAt_good g (by rw [hlen]; exact h) (by
        rw [hd, g1, g2]
        rintro (e | e | ⟨e, e'⟩)
        · exact h1 e
        · exact h2 e
        · exact h3 ⟨e, by omega⟩), hd, g1]
      refine take_clean hE hb g _ (fun f hf => ?_) (by omega)
      rw [← Nat.add_assoc] at hf ⊢
      rw [← cleanAt_fuel l l.length f _ (by omega) hf]; exact h4
    · exact cleanAt_end _ _ _ (by rw [hlen]; exact h)
theorem span_take (q : Int → Bool) (t : List UInt8) (e : Nat) (he : e ≤ t.length) : ∀ f j, spanAt q t f j = e → j ≤ e → ∀ g, e - j ≤ g → spanAt q (t.take e) g j = e
  | f, j, h, hj, 0, hg => by
    have : j = e := by omega
    subst this; rfl
  | f, j, h, hj, g + 1, hg => by
    have hlen : (t.take e).length = e := by rw [List.length_take]; omega
    by_cases hje : j = e
    · rw [spanAt_end _ _ _ _ (by rw [hlen]; omega)]; exact hje
    · cases f with
      | zero => exact absurd h hje
      | succ f =>
        by_cases hb : wide (t.drop j) = 0 ∨ q (chr (t.drop j)) = false
        · rw [spanAt_stop _ hb] at h; exact absurd h hje
        · have hw : wide (t.drop j) ≠ 0 := fun e => hb (.inl e)
          rw [spanAt_goes f (by omega) hb] at h
          have hle := (spanAt_le q t f (j + wide (t.drop j)) (drop_wide (by omega))).1
          rw [h] at hle
          have hd : (t.take e).drop j = (t.drop j).take (e - j) := by rw [List.drop_take]
          obtain ⟨g1, g2⟩ := take_wide hw (n := e - j) (by omega)
          rw [spanAt_goes g (by rw [hlen]; omega) (by rw [hd, g1, g2]; exact hb), hd, g1]
          exact span_take q t e he f _ h hle g (by omega)
theorem span_again (q : Int → Bool) (t : List UInt8) : spanLen q (t.take (spanLen q t)) = spanLen q t := by
  have hle := spanLen_le q t
  have h := span_take q t (spanLen q t) hle t.length 0 rfl (Nat.zero_le _) (spanLen q t) (by omega)
  have hlen : (t.take (spanLen q t)).length = spanLen q t := by rw [List.length_take]; omega
  conv => lhs; unfold spanLen
  rw [show spanAt q t t.length 0 = spanLen q t from rfl, hlen]
  exact h
theorem line_again : ∀ t : List UInt8, lineLen (t.take (lineLen t)) = lineLen t
  | [] => rfl
  | c :: t => by
    by_cases h : c = 10
    · have : lineLen (c :: t) = 0 := by unfold lineLen; rw [if_pos h]
      rw [this]; rfl
    · have : lineLen (c :: t) = lineLen t + 1 := by conv => lhs; unfold lineLen
                                                    rw [if_neg h]
      rw [this, List.take_succ_cons]
      conv => lhs; unfold lineLen
      rw [if_neg h, line_again t]
theorem pre_mono {x t : List UInt8} {n : Nat} (h : x.isPrefixOf (t.take n) = true) : x.isPrefixOf t = true :=
  List.isPrefixOf_iff_prefix.2 ((List.isPrefixOf_iff_prefix.1 h).trans (List.take_prefix n t))
theorem pre_take {x t : List UInt8} {n : Nat} (hn : x.length ≤ n) (h : x.isPrefixOf t = true) : x.isPrefixOf (t.take n) = true := by
  obtain ⟨u, rfl⟩ := List.isPrefixOf_iff_prefix.1 h
  rw [List.take_append, List.take_of_length_le hn]
  exact List.isPrefixOf_iff_prefix.2 (List.prefix_append _ _)
theorem block_again : ∀ (t : List UInt8) (j : Nat), blockLen t = some j → blockLen (t.take (j + 2)) = some j
  | [], j, h => by cases h
  | c :: t, j, h => by
    unfold blockLen at h
    by_cases hp : [42, 47].isPrefixOf (c :: t) = true
    · rw [if_pos hp] at h
      have : j = 0 := by injection h with h; exact h.symm
      subst this
      have hq := pre_take (n := 2) (by decide) hp
      rw [List.take_succ_cons] at hq ⊢
      unfold blockLen
      rw [if_pos hq]
    · rw [if_neg hp] at h
      cases hb : blockLen t with
      | none => rw [hb] at h; cases h
      | some i =>
        rw [hb] at h
        have : j = i + 1 := by injection h with h; exact h.symm
        subst this
        have ih := block_again t i hb
        rw [List.take_succ_cons]
        unfold blockLen
        rw [if_neg (fun hq => hp (by
          have := pre_mono (t := c :: t) (n := i + 1 + 2) (by rw [List.take_succ_cons]; exact hq)
          exact this)), ih]
        rfl
end Go.Proofs.YtbkmlldhjchhjaaGreat
