/-
  Layer 7, plain: a lexeme stays what it is if a blank is put somewhere behind it.
-/
import Derived.Test.YtbkmlldhjchhjaaGreatSz
namespace Go.Proofs.YtbkmlldhjchhjaaGreat

theorem wide_app {y : List UInt8} (h : wide y ≠ 0) (v : List UInt8) : wide (y ++ v) = wide y ∧ chr (y ++ v) = chr y := by
  obtain ⟨hs, hc⟩ := chr_split h
  have hl := (chr_form h).2
  have h1 : y ++ v = form (chr y) ++ (y.drop (wide y) ++ v) := by
    conv => lhs; rw [hs]
    rw [List.append_assoc]
  obtain ⟨g1, g2⟩ := wide_form hc (y.drop (wide y) ++ v)
  rw [h1, g1, g2, hl]
  exact ⟨rfl, rfl⟩
theorem span_stops (q : Int → Bool) (t : List UInt8) : ∀ f j, t.length - j ≤ f → j ≤ t.length → spanAt q t f j = t.length ∨ wide (t.drop (spanAt q t f j)) = 0 ∨ q (chr (t.drop (spanAt q t f j))) = false
  | 0, j, h1, h2 => .inl (by show j = t.length; omega)
  | f + 1, j, h1, h2 => by
    by_cases h : j < t.length
    · by_cases hb : wide (t.drop j) = 0 ∨ q (chr (t.drop j)) = false
      · rw [spanAt_stop _ hb]; exact .inr hb
      · have hw : wide (t.drop j) ≠ 0 := fun e => hb (.inl e)
        rw [spanAt_goes f h hb]
        exact span_stops q t f _ (by omega) (drop_wide h2)
    · rw [spanAt_end _ _ _ _ h]; exact .inl (by omega)
theorem span_app (q : Int → Bool) (x z : List UInt8) (hz : z = [] ∨ wide z = 0 ∨ q (chr z) = false) : ∀ f j, spanAt q x f j = x.length → j ≤ x.length → ∀ g, x.length - j ≤ g → spanAt q (x ++ z) g j = x.length
  | f, j, h, hj, g, hg => by
    by_cases hje : j = x.length
    · subst hje
      rcases hz with rfl | hz
      · rw [spanAt_end _ _ _ _ (by rw [List.append_nil]; omega)]
      · exact spanAt_stop _ (by rw [List.drop_left]; exact hz)
    · cases f with
      | zero => exact absurd h hje
      | succ f =>
        by_cases hb : wide (x.drop j) = 0 ∨ q (chr (x.drop j)) = false
        · rw [spanAt_stop _ hb] at h; exact absurd h hje
        · have hw : wide (x.drop j) ≠ 0 := fun e => hb (.inl e)
          rw [spanAt_goes f (by omega) hb] at h
          have hle := drop_wide (l := x) (pos := j) hj
          obtain ⟨g1, g2⟩ := wide_app hw z
          have hd : (x ++ z).drop j = x.drop j ++ z := List.drop_append_of_le_length hj
          obtain ⟨m, rfl⟩ : ∃ m, g = m + 1 := ⟨g - 1, by omega⟩
          rw [spanAt_goes m (by rw [List.length_append]; omega) (by rw [hd, g1, g2]; exact hb), hd, g1]
          exact span_app q x z hz f _ h hle m (by omega)
theorem span_cut {q : Int → Bool} {y v u : List UInt8} {b : UInt8} {n : Nat} (hq : q b.toNat = false) (hb7 : b.toNat < 128) (h : spanLen q (y ++ v) = n) (hn : n ≤ y.length) (hB : n < y.length → wide (y.drop n) ≠ 0) :
    spanLen q (y ++ b :: u) = n := by
  have hx : spanLen q (y.take n) = n := by
    have := span_again q (y ++ v)
    rw [h, List.take_append_of_le_length hn] at this; exact this
  have hlen : (y.take n).length = n := by rw [List.length_take]; omega
  have hz : y.drop n ++ b :: u = [] ∨ wide (y.drop n ++ b :: u) = 0 ∨ q (chr (y.drop n ++ b :: u)) = false := by
    by_cases hlt : n < y.length
    · have hw := hB hlt
      rcases span_stops q (y ++ v) (y ++ v).length 0 (by omega) (Nat.zero_le _) with e | e | e
      · have e' : spanLen q (y ++ v) = (y ++ v).length := e
        rw [h, List.length_append] at e'; omega
      · have e' : wide ((y ++ v).drop (spanLen q (y ++ v))) = 0 := e
        rw [h, List.drop_append_of_le_length hn, (wide_app hw v).1] at e'
        exact absurd e' hw
      · have e' : q (chr ((y ++ v).drop (spanLen q (y ++ v)))) = false := e
        rw [h, List.drop_append_of_le_length hn, (wide_app hw v).2] at e'
        exact .inr (.inr (by rw [(wide_app hw _).2]; exact e'))
    · rw [List.drop_of_length_le (by omega), List.nil_append]
      exact .inr (.inr (by rw [(ascii_head b u hb7).2]; exact hq))
  have hs : y ++ b :: u = y.take n ++ (y.drop n ++ b :: u) := by rw [← List.append_assoc, List.take_append_drop]
  rw [hs]
  have hx' : spanAt q (y.take n) (y.take n).length 0 = (y.take n).length := by rw [hlen]; rw [← hlen]; rw [hlen]; unfold spanLen at hx; rw [hlen] at hx; exact hx
  have := span_app q (y.take n) _ hz (y.take n).length 0 hx' (Nat.zero_le _) (y.take n ++ (y.drop n ++ b :: u)).length (by rw [List.length_append]; omega)
  rw [hlen] at this
  exact this
theorem line_cut : ∀ (y v u : List UInt8), lineLen (y ++ v) = y.length → lineLen (y ++ 10 :: u) = y.length
  | [], v, u, _ => by show lineLen (10 :: u) = 0; unfold lineLen; rw [if_pos rfl]
  | c :: y, v, u, h => by
    rw [List.cons_append] at h ⊢
    unfold lineLen at h ⊢
    by_cases hc : c = 10
    · rw [if_pos hc, List.length_cons] at h; omega
    · rw [if_neg hc, List.length_cons] at h
      rw [if_neg hc, List.length_cons, line_cut y v u (by omega)]
theorem pre_app {x t : List UInt8} (u : List UInt8) (h : x.isPrefixOf t = true) : x.isPrefixOf (t ++ u) = true :=
  List.isPrefixOf_iff_prefix.2 ((List.isPrefixOf_iff_prefix.1 h).trans (List.prefix_append t u))
theorem pre_back {x t u : List UInt8} (h : x.isPrefixOf (t ++ u) = true) (hl : x.length ≤ t.length) : x.isPrefixOf t = true :=
  List.isPrefixOf_iff_prefix.2 (List.prefix_of_prefix_length_le (List.isPrefixOf_iff_prefix.1 h) (List.prefix_append t u) hl)
theorem pre_cut {a c b : UInt8} {y u : List UInt8} (h : [a, c].isPrefixOf (y ++ b :: u) = true) (hy : y ≠ []) (hcb : c ≠ b) : [a, c].isPrefixOf y = true := by
  match y, h, hy with
  | [], _, hy => exact absurd rfl hy
  | [d], h, _ =>
    obtain ⟨_, u', e⟩ := prefix_two h
    exact absurd (List.cons.inj e).1.symm hcb
  | d :: e :: y, h, _ => exact pre_back h (by simp)
theorem block_app : ∀ (t : List UInt8) (j : Nat) (u : List UInt8), blockLen t = some j → blockLen (t ++ u) = some j
  | [], j, u, h => by cases h
  | c :: t, j, u, h => by
    unfold blockLen at h
    rw [List.cons_append]
    unfold blockLen
    by_cases hp : [42, 47].isPrefixOf (c :: t) = true
    · rw [if_pos hp] at h
      rw [if_pos (by rw [← List.cons_append]; exact pre_app u hp)]; exact h
    · rw [if_neg hp] at h
      cases hb : blockLen t with
      | none => rw [hb] at h; cases h
      | some i =>
        rw [hb] at h
        have hlt := blockLen_le t i hb
        rw [if_neg (fun hq => hp (by rw [← List.cons_append] at hq; exact pre_back hq (by simp; omega))), block_app t i u hb]; exact h
theorem run_two {c : UInt8} {t : List UInt8} (h : Num.starts (c :: t) = true) (hc : Num.dig 10 c = false) : 2 ≤ Num.runLen (c :: t) := by
  cases t with
  | nil =>
    have h' : (Num.dig 10 c || (decide (c = 46) && false)) = true := h
    rw [hc, Bool.and_false] at h'; cases h'
  | cons d u =>
    have h' : (Num.dig 10 c || (decide (c = 46) && Num.dig 10 d)) = true := h
    rw [hc, Bool.false_or, Bool.and_eq_true, decide_eq_true_eq] at h'
    have hg0 : Num.goesOn (Num.head? 120 88 (c :: d :: u)) (c :: d :: u) 0 = true := by
      show Num.tail? c = true
      rw [h'.1]; rfl
    have hg1 : Num.goesOn (Num.head? 120 88 (c :: d :: u)) (c :: d :: u) 1 = true := by
      show (Num.tail? d || _) = true
      rw [Num.dig_tail h'.2]; rfl
    unfold Num.runLen
    rw [List.length_cons, List.length_cons]
    unfold Num.runFrom
    rw [if_pos hg0]
    unfold Num.runFrom
    rw [if_pos hg1]
    exact Num.runFrom_ge _ _ _
theorem starts_cut {y v u : List UInt8} {b : UInt8} (hy : y ≠ []) (hb : Num.dig 10 b = false) (h : Num.starts (y ++ v) = true → Num.runLen (y ++ v) ≤ y.length) : Num.starts (y ++ b :: u) = Num.starts (y ++ v) := by
  match y, hy, h with
  | [], hy, _ => exact absurd rfl hy
  | [c], _, h =>
    cases hc : Num.dig 10 c with
    | true =>
      have e1 : Num.starts ([c] ++ b :: u) = true := by show (Num.dig 10 c || _) = true; rw [hc]; rfl
      have e2 : Num.starts ([c] ++ v) = true := by show (Num.dig 10 c || _) = true; rw [hc]; rfl
      rw [e1, e2]
    | false =>
      have e1 : Num.starts ([c] ++ b :: u) = false := by show (Num.dig 10 c || (decide (c = 46) && Num.dig 10 b)) = false; rw [hc, hb, Bool.and_false]; rfl
      rw [e1]
      cases hs : Num.starts ([c] ++ v) with
      | false => rfl
      | true =>
        have h1 := h hs
        have h2 : 2 ≤ Num.runLen ([c] ++ v) := run_two hs hc
        rw [List.length_singleton] at h1
        omega
  | c :: d :: y, _, _ => rfl
theorem run_stop (g : Nat → Bool) : ∀ M i, Num.runFrom g M i < i + M → g (Num.runFrom g M i) = false
  | 0, i, h => by unfold Num.runFrom at h; omega
  | M + 1, i, h => by
    unfold Num.runFrom at h ⊢
    by_cases hg : g i = true
    · rw [if_pos hg] at h ⊢
      exact run_stop g M (i + 1) (by omega)
    · rw [if_neg hg] at h ⊢
      exact Bool.not_eq_true _ ▸ hg
theorem run_upto (g : Nat → Bool) : ∀ M i n, (∀ j, i ≤ j → j < i + n → g j = true) → g (i + n) = false → n ≤ M → Num.runFrom g M i = i + n
  | 0, i, n, _, _, h => by
    have : n = 0 := by omega
    subst this; rfl
  | M + 1, i, n, h1, h2, h => by
    unfold Num.runFrom
    cases n with
    | zero => rw [if_neg (by rw [Nat.add_zero] at h2; rw [h2]; decide)]; rfl
    | succ n =>
      rw [if_pos (h1 i (by omega) (by omega)), run_upto g M (i + 1) n (fun j a b => h1 j (by omega) (by omega)) (by rw [show i + 1 + n = i + (n + 1) by omega]; exact h2) (by omega)]
      omega
theorem goes_same {t t' : List UInt8} {x x' : Bool} {j : Nat} (h1 : t[j]? = t'[j]?) (h2 : t[j - 1]? = t'[j - 1]?) (h3 : j = 0 ∨ x = x') : Num.goesOn x t j = Num.goesOn x' t' j := by
  cases j with
  | zero =>
    unfold Num.goesOn
    dsimp only
    rw [h1]
  | succ j =>
    have h3 : x = x' := by rcases h3 with h | h; omega; exact h
    rw [Nat.add_sub_cancel] at h2
    unfold Num.goesOn
    dsimp only
    rw [h1, h2, h3]
theorem run_cut {y v u : List UInt8} {b : UInt8} (hb : Num.tail? b = false) (hb1 : b ≠ 43) (hb2 : b ≠ 45) (hy : y ≠ []) (hn : Num.runLen (y ++ v) ≤ y.length) : Num.runLen (y ++ b :: u) = Num.runLen (y ++ v) := by
  obtain ⟨n, hN⟩ : ∃ n, n = Num.runLen (y ++ v) := ⟨_, rfl⟩
  have hpos : 0 < y.length := List.length_pos_iff.2 hy
  have hat : ∀ z j, j < y.length → (y ++ z)[j]? = y[j]? := fun z j hj => List.getElem?_append_left hj
  have hhd : 2 ≤ y.length → Num.head? 120 88 (y ++ b :: u) = Num.head? 120 88 (y ++ v) := by
    intro h2
    match y, h2 with
    | c :: d :: y, _ => rfl
  have hsame : ∀ j, j < y.length → Num.goesOn (Num.head? 120 88 (y ++ b :: u)) (y ++ b :: u) j = Num.goesOn (Num.head? 120 88 (y ++ v)) (y ++ v) j := fun j hj =>
    goes_same (by rw [hat _ _ hj, hat _ _ hj]) (by rw [hat _ _ (by omega), hat _ _ (by omega)]) (by
      by_cases h0 : j = 0
      · exact .inl h0
      · exact .inr (hhd (by omega)))
  rw [← hN] at hn ⊢
  have e : Num.runLen (y ++ b :: u) = 0 + n := by
    refine run_upto _ _ 0 n (fun j _ hj => ?_) ?_ (by rw [List.length_append]; omega)
    · rw [hsame j (by omega)]
      refine run_holds _ (y ++ v).length 0 j (by omega) ?_
      show j < Num.runLen (y ++ v); omega
    · rw [Nat.zero_add]
      by_cases hlt : n < y.length
      · rw [hsame n hlt]
        have := run_stop (Num.goesOn (Num.head? 120 88 (y ++ v)) (y ++ v)) (y ++ v).length 0 (by show Num.runLen (y ++ v) < _; rw [← hN, List.length_append]; omega)
        have e' : Num.runFrom (Num.goesOn (Num.head? 120 88 (y ++ v)) (y ++ v)) (y ++ v).length 0 = n := hN.symm
        rw [e'] at this; exact this
      · have hne : n = y.length := by omega
        obtain ⟨m, hm⟩ : ∃ m, n = m + 1 := ⟨n - 1, by omega⟩
        have q1 : (y ++ b :: u)[m + 1]? = some b := by rw [← hm, hne, List.getElem?_append_right (Nat.le_refl _), Nat.sub_self]; rfl
        rw [hm]
        unfold Num.goesOn
        dsimp only
        rw [q1]
        cases (y ++ b :: u)[m]? with
        | none => rfl
        | some d =>
          dsimp only
          rw [hb, decide_eq_false hb1, decide_eq_false hb2]; rfl
  rw [e, Nat.zero_add]
theorem sign_max {t : List UInt8} {n : Nat} (hn : n ≤ t.length) (h : isSign (t.take n) = true) : n ≤ signLen t := by
  have hm : t.take n ∈ signs := List.contains_iff_mem.1 h
  obtain ⟨j, hj, hj'⟩ := List.getElem_of_mem hm
  have h4 := (bestAt_is t 47 (Nat.le_refl _)).2.2.2 j hj
  have hd : signs.getD j [] = t.take n := by rw [List.getD_eq_getElem?_getD, List.getElem?_eq_getElem hj, hj']; rfl
  rw [hd, best_sign, List.length_take] at h4
  have := h4 (List.isPrefixOf_iff_prefix.2 (List.take_prefix n t))
  omega
theorem signs_noblank : ∀ x ∈ signs, (10 : UInt8) ∉ x ∧ (32 : UInt8) ∉ x := by decide
theorem sign_cut {y v u : List UInt8} {b : UInt8} (hb : b = 10 ∨ b = 32) (h0 : signLen (y ++ v) ≠ 0) (hn : signLen (y ++ v) ≤ y.length) : signLen (y ++ b :: u) = signLen (y ++ v) := by
  have hs := isSign_take h0
  have h3 : signLen (y ++ v) ≤ 3 := by
    have := (bestAt_is (y ++ v) 47 (Nat.le_refl _)).1
    rwa [best_sign] at this
  obtain ⟨n, hN⟩ : ∃ n, n = signLen (y ++ v) := ⟨_, rfl⟩
  rw [← hN] at hs hn h3 ⊢
  rw [List.take_append_of_le_length hn] at hs
  conv => lhs; unfold signLen
  refine signAt_is _ n _ (by rw [List.length_append]; omega) (fun _ => by rw [List.take_append_of_le_length hn]; exact hs) (fun m h1 h2 => ?_)
  cases hq : isSign ((y ++ b :: u).take m) with
  | false => rfl
  | true =>
    by_cases hm : m ≤ y.length
    · rw [List.take_append_of_le_length hm] at hq
      have := sign_max (t := y ++ v) (n := m) (by rw [List.length_append]; omega) (by rw [List.take_append_of_le_length hm]; exact hq)
      omega
    · have hin : b ∈ (y ++ b :: u).take m := by
        refine List.mem_of_getElem? (i := y.length) ?_
        rw [List.getElem?_take, if_pos (by omega), List.getElem?_append_right (Nat.le_refl _), Nat.sub_self]; rfl
      obtain ⟨n1, n2⟩ := signs_noblank _ (List.contains_iff_mem.1 hq)
      rcases hb with rfl | rfl
      · exact absurd hin n1
      · exact absurd hin n2
theorem part10 : isPart (((10 : UInt8).toNat : Nat) : Int) = false := by kernel_rfl
theorem part32 : isPart (((32 : UInt8).toNat : Nat) : Int) = false := by kernel_rfl
theorem lex_cut {y v u : List UInt8} {b : UInt8} {k n : Nat} (hb : b = 10 ∨ b = 32) (hw : wide y ≠ 0) (h : lexL (y ++ v) = (k, n)) (hn : n ≤ y.length) (hk : k ≠ 0) (hk10 : k ≠ 10)
    (h11 : k = 11 → b = 10 ∧ n = y.length) (hB : n < y.length → wide (y.drop n) ≠ 0) : lexL (y ++ b :: u) = (k, n) := by
  have hy : y ≠ [] := by rintro rfl; exact hw (by unfold wide; rw [if_pos (.inl rfl)])
  have g2 := (wide_app hw v).2
  have k2 := (wide_app hw (b :: u)).2
  have hpos : 0 < y.length := List.length_pos_iff.2 hy
  have b47 : (47 : UInt8) ≠ b := by rcases hb with rfl | rfl <;> decide
  have b42 : (42 : UInt8) ≠ b := by rcases hb with rfl | rfl <;> decide
  have h0 : ∀ z, (y ++ z)[0]? = y[0]? := fun z => List.getElem?_append_left hpos
  have htk : ∀ z, (y ++ z).take n = y.take n := fun z => List.take_append_of_le_length hn
  unfold lexL at h ⊢
  rw [g2] at h
  rw [k2]
  by_cases c1 : chr y = 65279
  · rw [if_pos c1] at h; exact absurd (Prod.mk.inj h).1.symm hk10
  rw [if_neg c1] at h ⊢
  by_cases c2 : isBlank (chr y) = true
  · rw [if_pos c2] at h; exact absurd (Prod.mk.inj h).1.symm hk10
  rw [if_neg c2] at h ⊢
  by_cases c3 : [47, 47].isPrefixOf (y ++ v) = true
  · rw [if_pos c3] at h
    obtain ⟨rfl, hlen⟩ := Prod.mk.inj h
    obtain ⟨rfl, hny⟩ := h11 rfl
    have h2 : 2 ≤ lineLen (y ++ v) := by
      obtain ⟨t, ht⟩ := List.isPrefixOf_iff_prefix.1 c3
      rw [← ht]
      show 2 ≤ lineLen (47 :: 47 :: t)
      simp [lineLen]
    rw [if_pos (pre_app _ (pre_back c3 (by show 2 ≤ _; omega))), line_cut y v u (by omega), hny]
  rw [if_neg c3] at h
  rw [if_neg (fun e => c3 (pre_app _ (pre_cut e hy b47)))]
  by_cases c4 : [47, 42].isPrefixOf (y ++ v) = true
  · rw [if_pos c4] at h
    cases hbl : blockLen ((y ++ v).drop 2) with
    | none => rw [hbl] at h; exact absurd (Prod.mk.inj h).1.symm hk
    | some j =>
      rw [hbl] at h
      obtain ⟨rfl, rfl⟩ := Prod.mk.inj h
      have h2 : 2 ≤ y.length := by omega
      have hbl2 := block_again _ _ hbl
      rw [List.drop_append_of_le_length h2, List.take_append_of_le_length (by rw [List.length_drop]; omega)] at hbl2
      have hbl3 := block_app _ _ ((y.drop 2).drop (j + 2)) hbl2
      rw [List.take_append_drop] at hbl3
      rw [if_pos (pre_app _ (pre_back c4 h2)), List.drop_append_of_le_length h2, block_app _ _ (b :: u) hbl3]
  rw [if_neg c4] at h
  rw [if_neg (fun e => c4 (pre_app _ (pre_cut e hy b42)))]
  by_cases c5 : inside letters (chr y) = true
  · rw [if_pos c5] at h ⊢
    obtain ⟨h1, h2⟩ := Prod.mk.inj h
    rw [h2, htk] at h1
    rw [span_cut (by rcases hb with rfl | rfl; exact part10; exact part32) (by rcases hb with rfl | rfl <;> decide) h2 hn hB, htk, h1]
  rw [if_neg c5] at h ⊢
  have hd10 : Num.dig 10 b = false := by rcases hb with rfl | rfl <;> rfl
  by_cases c6 : Num.starts (y ++ v) = true
  · rw [if_pos c6] at h
    by_cases c7 : Num.kindOf ((y ++ v).take (Num.runLen (y ++ v))) = 0
    · rw [if_pos c7] at h; exact absurd (Prod.mk.inj h).1.symm hk
    · rw [if_neg c7] at h
      obtain ⟨h1, h2⟩ := Prod.mk.inj h
      rw [h2, htk] at h1 c7
      rw [starts_cut (v := v) hy hd10 (fun _ => by omega), if_pos c6, run_cut (v := v) (by rcases hb with rfl | rfl <;> rfl) (by rcases hb with rfl | rfl <;> decide) (by rcases hb with rfl | rfl <;> decide) hy (by omega), h2, htk, if_neg c7, h1]
  rw [if_neg c6] at h
  rw [starts_cut (v := v) hy hd10 (fun e => absurd e c6), if_neg c6]
  have hma : ∀ z, markAt (y ++ z) 0 = markAt y 0 := fun z => by unfold markAt; rw [show ((0 : Int)).toNat = 0 from rfl, h0]
  rw [hma] at h
  rw [hma]
  by_cases c8 : markAt y 0 = true
  · rw [if_pos c8] at h ⊢
    cases hro : readOf (y ++ v) 0 with
    | none => rw [hro] at h; exact absurd (Prod.mk.inj h).1.symm hk
    | some x =>
      obtain ⟨K, L, m⟩ := x
      rw [hro] at h
      obtain ⟨rfl, rfl⟩ := Prod.mk.inj h
      have := (readOf_len hro).2.2.2.2 (y.drop m ++ b :: u)
      rw [htk, ← List.append_assoc, List.take_append_drop] at this
      rw [this]; rfl
  rw [if_neg c8] at h ⊢
  rw [List.head?_eq_getElem?, h0] at h
  rw [List.head?_eq_getElem?, h0]
  by_cases c9 : y[0]? = some 59
  · rw [if_pos c9] at h ⊢; exact h
  rw [if_neg c9] at h ⊢
  by_cases c10 : signLen (y ++ v) = 0
  · rw [if_pos c10] at h; exact absurd (Prod.mk.inj h).1.symm hk
  · rw [if_neg c10] at h
    obtain ⟨rfl, h2⟩ := Prod.mk.inj h
    rw [sign_cut hb c10 (by omega), if_neg c10, h2]
end Go.Proofs.YtbkmlldhjchhjaaGreat
