/-
  Layer 7, plain: texts as the lexemes that they are cut into; blanks between them (for the law ScanApart).
-/
import Derived.Test.YtbkmlldhjchhjaaGreatTa
namespace Go.Proofs.YtbkmlldhjchhjaaGreat

/-- a text and the lexemes that it is cut into: their kinds and texts -/
def Lexes : List (Nat × List UInt8) → List UInt8 → Prop
  | [], t => t = []
  | x :: W, t => ∃ t', t = x.2 ++ t' ∧ lexL t = (x.1, x.2.length) ∧ x.1 ≠ 0 ∧ wide x.2 ≠ 0 ∧ Lexes W t'
/-- of lexemes at places of a text: their kinds and texts -/
def texts (l : List UInt8) (T : List (Nat × Nat × Nat)) : List (Nat × List UInt8) := T.map fun x => (x.1, (l.drop x.2.1).take (x.2.2 - x.2.1))
theorem tiles_lexes {l : List UInt8} : ∀ (T : List (Nat × Nat × Nat)) (p : Nat), Tiles l p T → Lexes (texts l T) (l.drop p)
  | [], p, h => by
    have h : p = l.length := h
    show l.drop p = []
    rw [h, List.drop_length]
  | x :: T, p, h => by
    obtain ⟨rfl, hk, h1, h2, h3, h4⟩ := h
    obtain ⟨⟨k, n⟩, hp⟩ : ∃ y, y = lexL (l.drop p) := ⟨_, rfl⟩
    have hk0 : k ≠ 0 := by
      rintro rfl
      rw [lexV_none hp.symm] at hk
      exact absurd rfl hk
    obtain ⟨_, hw, _⟩ := lex_again (h3 l.length (by omega)) (by omega) (by omega) hp.symm hk0
    have hv := lexV_some hp.symm hk0
    have ih := tiles_lexes T _ h4
    rw [hv] at ih h1 h2
    have h1 : p < p + n := h1
    have h2 : p + n ≤ l.length := h2
    have hlen : ((l.drop p).take n).length = n := by rw [List.length_take, List.length_drop]; omega
    refine ⟨l.drop (p + n), ?_, ?_, ?_, ?_, ih⟩
    · show l.drop p = (l.drop p).take ((lexV l p).2 - p) ++ _
      rw [hv, show (k, p + n).2 - p = n by show p + n - p = n; omega, ← List.drop_drop, List.take_append_drop]
    · show lexL (l.drop p) = ((lexV l p).1, ((l.drop p).take ((lexV l p).2 - p)).length)
      rw [hv, show (k, p + n).2 - p = n by show p + n - p = n; omega, hlen]; exact hp.symm
    · show (lexV l p).1 ≠ 0
      exact hk
    · show wide ((l.drop p).take ((lexV l p).2 - p)) ≠ 0
      rw [hv, show (k, p + n).2 - p = n by show p + n - p = n; omega]; exact hw
theorem all_tiles {l : List UInt8} {T : List (Nat × Nat × Nat)} (h : allAns l = (T, 0, 0)) : l.length ≤ 65536 ∧ cleanAt l l.length 0 = -1 ∧ Tiles l 0 T := by
  unfold allAns at h
  split at h
  · cases h
  split at h
  · cases h
  rename_i h1 h2
  have hc : cleanAt l l.length 0 = -1 := by
    rcases cleanAt_ge l l.length 0 with e | e
    · exact e
    · exact absurd e h2
  refine ⟨by omega, hc, ?_⟩
  cases ht : (toks l l.length 0).2 with
  | some p => rw [ht] at h; cases h
  | none =>
    rw [ht] at h
    have hT : (toks l l.length 0).1 = T := (Prod.mk.inj h).1
    rw [← hT]
    exact toks_tiles l _ 0 (fun g hg => by rw [← cleanAt_fuel l l.length g 0 (by omega) hg]; exact hc) (Nat.zero_le _) (by omega) ht
theorem lexes_toks {l : List UInt8} : ∀ (W : List (Nat × List UInt8)) (p f : Nat), Lexes W (l.drop p) → p ≤ l.length → l.length - p ≤ f → ∃ T, toks l f p = (T, none) ∧ texts l T = W
  | [], p, f, h, hp, hf => by
    have h : l.drop p = [] := h
    have := List.length_drop (l := l) (i := p)
    rw [h, List.length_nil] at this
    exact ⟨[], toks_end l f p (by omega), rfl⟩
  | (k, x) :: W, p, f, ⟨t', h1, h2, h3, h4, h5⟩, hp, hf => by
    have h1 : l.drop p = x ++ t' := h1
    have h2 : lexL (l.drop p) = (k, x.length) := h2
    have h4 : wide x ≠ 0 := h4
    have hx : 0 < x.length := by have := (wide_le x).2; omega
    have hl := congrArg List.length h1
    rw [List.length_drop, List.length_append] at hl
    obtain ⟨g, rfl⟩ : ∃ g, f = g + 1 := ⟨f - 1, by omega⟩
    have hd : l.drop (p + x.length) = t' := by rw [← List.drop_drop, h1, List.drop_left]
    obtain ⟨T, ih1, ih2⟩ := lexes_toks W (p + x.length) g (by rw [hd]; exact h5) (by omega) (by omega)
    have hv := lexV_some h2 h3
    have hk : ¬ (lexV l p).1 = 0 := by rw [hv]; exact h3
    refine ⟨(k, p, p + x.length) :: T, ?_, ?_⟩
    · rw [toks_step l g p (by omega), if_neg hk, hv, ih1]
    · show (k, (l.drop p).take (p + x.length - p)) :: texts l T = _
      rw [ih2, h1, show p + x.length - p = x.length by omega, List.take_left]
theorem all_of {W : List (Nat × List UInt8)} {t : List UInt8} (h : Lexes W t) (hc : cleanAt t t.length 0 = -1) (hl : t.length ≤ 65536) : ∃ T, allAns t = (T, 0, 0) ∧ texts t T = W := by
  obtain ⟨T, h1, h2⟩ := lexes_toks (l := t) W 0 t.length (by rw [List.drop_zero]; exact h) (Nat.zero_le _) (by omega)
  refine ⟨T, ?_, h2⟩
  unfold allAns
  rw [if_neg (by omega), hc, if_neg (by decide), h1]
  rfl
/-- those lexemes that are no blanks -/
def wordsW (W : List (Nat × List UInt8)) : List (Nat × List UInt8) := W.filter fun x => decide (x.1 ≠ 10)
def LexN (t : List UInt8) (V : List (Nat × List UInt8)) : Prop := ∃ W, Lexes W t ∧ wordsW W = V
def blankB (c : UInt8) : Prop := c = 9 ∨ c = 10 ∨ c = 13 ∨ c = 32
theorem blank_head {c : UInt8} (hc : blankB c) (t : List UInt8) : wide (c :: t) = 1 ∧ isBlank (chr (c :: t)) = true ∧ chr (c :: t) ≠ 65279 := by
  obtain ⟨h1, h2⟩ := ascii_head c t (by rcases hc with rfl | rfl | rfl | rfl <;> decide)
  rw [h1, h2]
  rcases hc with rfl | rfl | rfl | rfl <;> decide
theorem span_blank {c : UInt8} (hc : blankB c) (t : List UInt8) : spanLen isBlank (c :: t) = spanLen isBlank t + 1 := by
  obtain ⟨h1, h2, _⟩ := blank_head hc t
  have hd : (c :: t).drop 0 = c :: t := rfl
  unfold spanLen
  rw [List.length_cons, spanAt_goes t.length (by simp) (by rw [hd, h1, h2]; rintro (e | e); omega; exact absurd e (by decide)), hd, h1]
  have := spanAt_rel isBlank (c :: t) t.length 0 1
  rw [Nat.add_zero] at this
  rw [show 0 + 1 = 1 from rfl, this, show (c :: t).drop 1 = t from rfl, Nat.add_comm]
theorem lex_blank {t : List UInt8} (h : spanLen isBlank t ≠ 0) : lexL t = (10, spanLen isBlank t) := by
  have hb : ¬ (wide t = 0 ∨ isBlank (chr t) = false) := by
    intro e
    apply h
    unfold spanLen
    exact spanAt_stop _ (by rw [List.drop_zero]; exact e)
  have h2 : isBlank (chr t) = true := by
    cases e : isBlank (chr t) with
    | true => rfl
    | false => exact absurd (.inr e) hb
  unfold lexL
  rw [if_neg (by intro e; rw [e] at h2; exact absurd h2 (by decide)), if_pos h2]
/-- a blank ahead of a text: a lexeme by itself, or more of the first one -/
theorem lexes_blank {c : UInt8} (hc : blankB c) {W : List (Nat × List UInt8)} {t : List UInt8} (h : Lexes W t) :
    Lexes ((10, [c]) :: W) (c :: t) ∨ ∃ x W', W = (10, x) :: W' ∧ Lexes ((10, c :: x) :: W') (c :: t) := by
  have hs := span_blank hc t
  have hl := lex_blank (t := c :: t) (by omega)
  by_cases h0 : spanLen isBlank t = 0
  · left
    refine ⟨t, rfl, ?_, Nat.succ_ne_zero 9, ?_, h⟩
    · rw [hl, hs, h0]; rfl
    · show wide [c] ≠ 0
      rw [(blank_head hc []).1]; decide
  · right
    have ht := lex_blank h0
    match W, h with
    | [], h =>
      have h : t = [] := h
      subst h
      exact absurd rfl h0
    | (k, x) :: W', ⟨t', h1, h2, h3, h4, h5⟩ =>
      have h1 : t = x ++ t' := h1
      have h2 : lexL t = (k, x.length) := h2
      rw [ht] at h2
      obtain ⟨rfl, hx⟩ := Prod.mk.inj h2
      refine ⟨x, W', rfl, t', by rw [h1]; rfl, ?_, Nat.succ_ne_zero 9, ?_, h5⟩
      · rw [hl, hs, hx]; rfl
      · show wide (c :: x) ≠ 0
        rw [(blank_head hc x).1]; decide
theorem lexn_blank {c : UInt8} (hc : blankB c) {t : List UInt8} {V : List (Nat × List UInt8)} : LexN t V → LexN (c :: t) V := by
  rintro ⟨W, h, rfl⟩
  rcases lexes_blank hc h with h1 | ⟨x, W', rfl, h1⟩
  · exact ⟨_, h1, rfl⟩
  · exact ⟨_, h1, rfl⟩
theorem lexn_blanks : ∀ {x : List UInt8} {t : List UInt8} {V : List (Nat × List UInt8)}, (∀ c ∈ x, blankB c) → LexN t V → LexN (x ++ t) V
  | [], _, _, _, h => h
  | c :: _, _, _, hx, h => lexn_blank (hx c (List.mem_cons_self ..)) (lexn_blanks (fun d hd => hx d (List.mem_cons_of_mem _ hd)) h)
theorem lexn_cons {k : Nat} {x t : List UInt8} {V : List (Nat × List UInt8)} (h1 : lexL (x ++ t) = (k, x.length)) (h2 : k ≠ 0) (h3 : wide x ≠ 0) (hk : k ≠ 10) : LexN t V → LexN (x ++ t) ((k, x) :: V) := by
  rintro ⟨W, h, rfl⟩
  refine ⟨(k, x) :: W, ⟨t, rfl, h1, h2, h3, h⟩, ?_⟩
  unfold wordsW
  rw [List.filter_cons_of_pos (by simpa using hk)]
theorem lexn_drop {x t : List UInt8} {V : List (Nat × List UInt8)} (h1 : lexL (x ++ t) = (10, x.length)) (h3 : wide x ≠ 0) : LexN t V → LexN (x ++ t) V := by
  rintro ⟨W, h, rfl⟩
  exact ⟨(10, x) :: W, ⟨t, rfl, h1, Nat.succ_ne_zero 9, h3, h⟩, rfl⟩
theorem kind_small (l : List UInt8) : Num.kindOf l ≤ 5 := by
  unfold Num.kindOf
  split
  · decide
  split
  · decide
  split
  · decide
  · decide
theorem read_kind {l L : List UInt8} {k K n : Nat} (h : readOf l k = some (K, L, n)) : K = 6 ∨ K = 7 := by
  unfold readOf at h
  split at h
  · cases hr : rawOf (k + 1) [] (l.drop (k + 1)) with
    | none => rw [hr] at h; cases h
    | some x => rw [hr] at h; cases h; exact .inr rfl
  split at h
  · cases hr : strOf l (l.length - (k + 1)) (k + 1) [] with
    | none => rw [hr] at h; cases h
    | some x => rw [hr] at h; cases h; exact .inr rfl
  split at h
  · cases hr : runeOf l (k + 1) [] with
    | none => rw [hr] at h; cases h
    | some x => rw [hr] at h; cases h; exact .inl rfl
  · cases h
/-- which lexemes are blanks -/
theorem lex_ten {t : List UInt8} {n : Nat} (h : lexL t = (10, n)) : (chr t = 65279 ∧ n = wide t) ∨ (isBlank (chr t) = true ∧ n = spanLen isBlank t) := by
  unfold lexL at h
  split at h
  · rename_i e; exact .inl ⟨e, (Prod.mk.inj h).2.symm⟩
  split at h
  · rename_i e; exact .inr ⟨e, (Prod.mk.inj h).2.symm⟩
  split at h
  · exact absurd (Prod.mk.inj h).1 (by decide)
  split at h
  · split at h
    · exact absurd (Prod.mk.inj h).1 (by decide)
    · exact absurd (Prod.mk.inj h).1 (by decide)
  split at h
  · have := (Prod.mk.inj h).1
    split at this <;> exact absurd this (by decide)
  split at h
  · split at h
    · exact absurd (Prod.mk.inj h).1 (by decide)
    · have := (Prod.mk.inj h).1
      have := kind_small (t.take (Num.runLen t))
      omega
  split at h
  · cases hro : readOf t 0 with
    | none => rw [hro] at h; exact absurd (Prod.mk.inj h).1 (by decide)
    | some x =>
      obtain ⟨K, L, m⟩ := x
      rw [hro] at h
      have h1 : K = 10 := (Prod.mk.inj h).1
      rcases read_kind hro with e | e <;> omega
  split at h
  · exact absurd (Prod.mk.inj h).1 (by decide)
  split at h
  · exact absurd (Prod.mk.inj h).1 (by decide)
  · exact absurd (Prod.mk.inj h).1 (by decide)
theorem blank_bytes {x : List UInt8} : ∀ f j, spanAt isBlank x f j = x.length → j ≤ x.length → ∀ c ∈ x.drop j, blankB c
  | 0, j, h, hj, c, hc => by
    have h : j = x.length := h
    rw [h, List.drop_length] at hc; cases hc
  | f + 1, j, h, hj, c, hc => by
    by_cases hlt : j < x.length
    · by_cases hb : wide (x.drop j) = 0 ∨ isBlank (chr (x.drop j)) = false
      · rw [spanAt_stop _ hb] at h; omega
      · have hw : wide (x.drop j) ≠ 0 := fun e => hb (.inl e)
        have hq : isBlank (chr (x.drop j)) = true := by
          cases e : isBlank (chr (x.drop j)) with
          | true => rfl
          | false => exact absurd (.inr e) hb
        rw [spanAt_goes f hlt hb] at h
        have ih := blank_bytes f _ h (drop_wide hj)
        obtain ⟨hs, _⟩ := chr_split hw
        have hq' : chr (x.drop j) = 9 ∨ chr (x.drop j) = 10 ∨ chr (x.drop j) = 13 ∨ chr (x.drop j) = 32 := by
          unfold isBlank at hq; rwa [decide_eq_true_eq] at hq
        rw [hs, List.mem_append] at hc
        rcases hc with hc | hc
        · rcases hq' with e | e | e | e <;> rw [e, form_ascii _ (by decide) (by decide)] at hc <;> rw [List.mem_singleton] at hc <;> subst hc
          · exact .inl rfl
          · exact .inr (.inl rfl)
          · exact .inr (.inr (.inl rfl))
          · exact .inr (.inr (.inr rfl))
        · rw [List.drop_drop] at hc
          exact ih c hc
    · rw [List.drop_of_length_le (by omega)] at hc; cases hc
/-- what a blank lexeme is made of -/
theorem ten_split {t : List UInt8} {x t' : List UInt8} (h : t = x ++ t') (hl : lexL t = (10, x.length)) (hw : wide x ≠ 0) : (chr x = 65279 ∧ wide x = x.length) ∨ ∀ c ∈ x, blankB c := by
  obtain ⟨g1, g2⟩ := wide_app hw t'
  rw [← h] at g1 g2
  rcases lex_ten hl with ⟨e1, e2⟩ | ⟨e1, e2⟩
  · exact .inl ⟨by rw [← g2]; exact e1, by rw [← g1]; exact e2.symm⟩
  · right
    have hs := span_again isBlank t
    rw [← e2, h, List.take_left] at hs
    have := blank_bytes x.length 0 hs (Nat.zero_le _)
    rwa [List.drop_zero] at this
/-- with a line's end behind each lexeme -/
def apart (W : List (Nat × List UInt8)) : List UInt8 := W.flatMap fun x => x.2 ++ [10]
theorem apart_cons (k : Nat) (x : List UInt8) (W : List (Nat × List UInt8)) : apart ((k, x) :: W) = x ++ 10 :: apart W := by
  show (x ++ [10]) ++ apart W = _
  rw [List.append_assoc]; rfl
theorem apart_lexn : ∀ (W : List (Nat × List UInt8)) (t : List UInt8), Lexes W t → LexN (apart W) (wordsW W)
  | [], t, _ => ⟨[], rfl, rfl⟩
  | (k, x) :: W, t, ⟨t', h1, h2, h3, h4, h5⟩ => by
    have h1 : t = x ++ t' := h1
    have h2 : lexL t = (k, x.length) := h2
    have h4 : wide x ≠ 0 := h4
    have ih := apart_lexn W t' h5
    have ih' := lexn_blank (c := 10) (.inr (.inl rfl)) ih
    rw [apart_cons]
    by_cases hk : k = 10
    · subst hk
      have hwd : wordsW ((10, x) :: W) = wordsW W := rfl
      rw [hwd]
      rcases ten_split h1 h2 h4 with ⟨e1, e2⟩ | hb
      · refine lexn_drop ?_ h4 ih'
        obtain ⟨g1, g2⟩ := wide_app h4 (10 :: apart W)
        unfold lexL
        rw [g2, if_pos e1, g1, e2]
      · exact lexn_blanks hb ih'
    · have hwd : wordsW ((k, x) :: W) = (k, x) :: wordsW W := by
        unfold wordsW
        rw [List.filter_cons_of_pos (by simpa using hk)]
      rw [hwd]
      rw [h1] at h2
      exact lexn_cons (lex_cut (.inl rfl) h4 h2 (Nat.le_refl _) h3 hk (fun _ => ⟨rfl, rfl⟩) (fun h => absurd h (Nat.lt_irrefl _))) h3 h4 hk ih'
/-- characters that may stand anywhere in a text -/
def Plain (t : List UInt8) : Prop := ∃ cs : List Int, t = cs.flatMap form ∧ ∀ c ∈ cs, isChar c = true ∧ c ≠ 0 ∧ c ≠ 65279
theorem Plain.nil : Plain [] := ⟨[], rfl, fun _ h => by cases h⟩
theorem Plain.app {a b : List UInt8} : Plain a → Plain b → Plain (a ++ b) := by
  rintro ⟨cs, rfl, h⟩ ⟨ds, rfl, k⟩
  refine ⟨cs ++ ds, by rw [List.flatMap_append], fun c hc => ?_⟩
  rcases List.mem_append.1 hc with hc | hc
  · exact h c hc
  · exact k c hc
theorem plain10 : Plain [10] := ⟨[10], by rw [List.flatMap_cons, form_ascii _ (by decide) (by decide)]; rfl, fun c hc => by rw [List.mem_singleton] at hc; subst hc; decide⟩
theorem plain32 : Plain [32] := ⟨[32], by rw [List.flatMap_cons, form_ascii _ (by decide) (by decide)]; rfl, fun c hc => by rw [List.mem_singleton] at hc; subst hc; decide⟩
theorem plain59 : Plain [59] := ⟨[59], by rw [List.flatMap_cons, form_ascii _ (by decide) (by decide)]; rfl, fun c hc => by rw [List.mem_singleton] at hc; subst hc; decide⟩
theorem plain_at : ∀ (cs : List Int) (pre : List UInt8) (g : Nat), (∀ c ∈ cs, isChar c = true ∧ c ≠ 0 ∧ c ≠ 65279) → cleanAt (pre ++ cs.flatMap form) g pre.length = -1
  | [], pre, g, _ => cleanAt_end _ _ _ (by simp)
  | c :: cs, pre, 0, _ => rfl
  | c :: cs, pre, g + 1, h => by
    obtain ⟨h1, h2, h3⟩ := h c (List.mem_cons_self ..)
    obtain ⟨g1, g2⟩ := wide_form h1 (cs.flatMap form)
    have hf := form_len c h1
    have hd : (pre ++ (c :: cs).flatMap form).drop pre.length = form c ++ cs.flatMap form := by rw [List.drop_left, List.flatMap_cons]
    have ih := plain_at cs (pre ++ form c) g (fun d hd => h d (List.mem_cons_of_mem _ hd))
    rw [cleanAt_good g (by rw [List.length_append, List.flatMap_cons, List.length_append]; omega) (by
      rw [hd, g1, g2]
      rintro (e | e | ⟨e, _⟩)
      · omega
      · exact h2 e
      · exact h3 e), hd, g1]
    rw [List.length_append, List.append_assoc] at ih
    rw [List.flatMap_cons]; exact ih
theorem plain_clean {t : List UInt8} (h : Plain t) (pre : List UInt8) (g : Nat) : cleanAt (pre ++ t) g pre.length = -1 := by
  obtain ⟨cs, rfl, h⟩ := h
  exact plain_at cs pre g h
theorem clean_plain (l : List UInt8) : ∀ f p, cleanAt l f p = -1 → l.length - p ≤ f → p ≤ l.length → (0 < p ∨ chr (l.drop p) ≠ 65279) → Plain (l.drop p)
  | 0, p, _, hf, hp, _ => by rw [List.drop_of_length_le (by omega)]; exact Plain.nil
  | f + 1, p, h, hf, hp, h0 => by
    by_cases hlt : p < l.length
    · obtain ⟨h1, h2, h3, h4⟩ := clean_step h hlt
      obtain ⟨hs, hc⟩ := chr_split h1
      have ih := clean_plain l f _ h4 (by omega) (drop_wide hp) (.inl (by omega))
      rw [← List.drop_drop] at ih
      rw [hs]
      refine Plain.app ⟨[chr (l.drop p)], by simp, fun c hc' => ?_⟩ ih
      rw [List.mem_singleton] at hc'
      subst hc'
      refine ⟨hc, h2, ?_⟩
      intro e
      rcases h0 with h0 | h0
      · exact h3 ⟨e, h0⟩
      · exact h0 e
    · rw [List.drop_of_length_le (by omega)]; exact Plain.nil
/-- the texts of lexemes that begin behind the head of a clean text -/
theorem tiles_plain {l : List UInt8} : ∀ (T : List (Nat × Nat × Nat)) (p : Nat), 0 < p → Tiles l p T → ∀ x ∈ texts l T, Plain x.2
  | [], p, _, _, x, hx => by cases hx
  | y :: T, p, hp, h, x, hx => by
    obtain ⟨rfl, hk, h1, h2, h3, h4⟩ := h
    rcases List.mem_cons.1 hx with rfl | hx
    · obtain ⟨⟨k, n⟩, hq⟩ : ∃ y, y = lexL (l.drop p) := ⟨_, rfl⟩
      have hk0 : k ≠ 0 := by
        rintro rfl
        rw [lexV_none hq.symm] at hk
        exact absurd rfl hk
      obtain ⟨_, hw, hcl⟩ := lex_again (h3 l.length (by omega)) (by omega) (by omega) hq.symm hk0
      have hv := lexV_some hq.symm hk0
      rw [hv] at h1 h2
      have h1 : p < p + n := h1
      have h2 : p + n ≤ l.length := h2
      show Plain ((l.drop p).take ((lexV l p).2 - p))
      rw [hv, show (k, p + n).2 - p = n by show p + n - p = n; omega]
      have hlen : ((l.drop p).take n).length = n := by rw [List.length_take, List.length_drop]; omega
      have hg := wide_app hw ((l.drop p).drop n)
      rw [List.take_append_drop] at hg
      have := clean_plain ((l.drop p).take n) n 0 hcl (by omega) (Nat.zero_le _) (.inr (by
        rw [List.drop_zero, ← hg.2]
        have := (clean_step (h3 (l.length + 1) (by omega)) (by omega)).2.2.1
        exact fun e => this ⟨e, hp⟩))
      rwa [List.drop_zero] at this
    · exact tiles_plain T _ (by omega) h4 x hx
/-- of a clean text's lexemes the first alone may be the mark of a text's head -/
theorem tiles_head {l : List UInt8} {T : List (Nat × Nat × Nat)} (h : Tiles l 0 T) (hc : cleanAt l l.length 0 = -1) :
    (∀ x ∈ texts l T, Plain x.2) ∨ ∃ x W, texts l T = (10, x) :: W ∧ chr x = 65279 ∧ wide x = x.length ∧ wide x ≠ 0 ∧ ∀ y ∈ W, Plain y.2 := by
  have hL := tiles_lexes T 0 h
  rw [List.drop_zero] at hL
  match T, h, hL with
  | [], _, _ => exact .inl (fun x hx => by cases hx)
  | y :: T, h, hL =>
    obtain ⟨rfl, hk, h1, h2, h3, h4⟩ := h
    have hT := tiles_plain T _ (by omega) h4
    obtain ⟨t', e1, e2, e3, e4, e5⟩ := hL
    obtain ⟨x, hx⟩ : ∃ x, x = (l.drop 0).take ((lexV l 0).2 - 0) := ⟨_, rfl⟩
    obtain ⟨k, hkk⟩ : ∃ k, k = (lexV l 0).1 := ⟨_, rfl⟩
    have htx : texts l (((lexV l 0).1, 0, (lexV l 0).2) :: T) = (k, x) :: texts l T := by rw [hx, hkk]; rfl
    have e1 : l = x ++ t' := by rw [hx]; exact e1
    have e2 : lexL l = (k, x.length) := by rw [hx, hkk]; exact e2
    have e4 : wide x ≠ 0 := by rw [hx]; exact e4
    rw [htx]
    by_cases hb : chr x = 65279
    · right
      have hch : chr l = 65279 := by rw [e1, (wide_app e4 t').2]; exact hb
      have hl : lexL l = (10, wide l) := by unfold lexL; rw [if_pos hch]
      rw [hl] at e2
      obtain ⟨hk10, hwl⟩ := Prod.mk.inj e2
      refine ⟨x, texts l T, by rw [hk10], hb, ?_, e4, hT⟩
      rw [← hwl]
      conv => rhs; rw [e1]
      rw [(wide_app e4 t').1]
    · left
      intro y hy
      rcases List.mem_cons.1 hy with rfl | hy
      · have hch : chr (l.drop 0) ≠ 65279 := by rw [List.drop_zero, e1, (wide_app e4 t').2]; exact hb
        obtain ⟨cs, h5, h6⟩ := clean_plain l l.length 0 hc (by omega) (Nat.zero_le _) (.inr hch)
        have hcl := (lex_again (k := k) (n := x.length) hc (by omega) (by
          have := congrArg List.length e1; rw [List.length_append] at this; have := (wide_le x).2; omega) (by rw [List.drop_zero]; exact e2) (by rw [hkk]; exact hk)).2.2
        rw [List.drop_zero, e1, List.take_left] at hcl
        have := clean_plain x x.length 0 hcl (by omega) (Nat.zero_le _) (.inr (by rw [List.drop_zero]; exact hb))
        rwa [List.drop_zero] at this
      · exact hT y hy
theorem flat_plain {W : List (Nat × List UInt8)} {f : Nat × List UInt8 → List UInt8} (h : ∀ x ∈ W, Plain (f x)) : Plain (W.flatMap f) := by
  induction W with
  | nil => exact Plain.nil
  | cons x W ih =>
    rw [List.flatMap_cons]
    exact (h x (List.mem_cons_self ..)).app (ih fun y hy => h y (List.mem_cons_of_mem _ hy))
theorem mark_clean {x t : List UInt8} (h1 : chr x = 65279) (h2 : wide x = x.length) (h3 : wide x ≠ 0) (ht : Plain t) (g : Nat) : cleanAt (x ++ t) g 0 = -1 := by
  cases g with
  | zero => rfl
  | succ g =>
    obtain ⟨g1, g2⟩ := wide_app h3 t
    have hd : (x ++ t).drop 0 = x ++ t := rfl
    rw [cleanAt_good g (by rw [List.length_append]; omega) (by
      rw [hd, g1, g2, h1]
      rintro (e | e | ⟨_, e⟩)
      · exact h3 e
      · exact absurd e (by decide)
      · omega), hd, g1, h2, Nat.zero_add]
    exact plain_clean ht x g
/-- a text cut apart is cut into the same wordsW -/
theorem apart_all {l : List UInt8} {T : List (Nat × Nat × Nat)} (h : allAns l = (T, 0, 0)) (hl : l.length ≤ 4000) : ∃ S, allAns (apart (texts l T)) = (S, 0, 0) ∧ wordsW (texts (apart (texts l T)) S) = wordsW (texts l T) ∧ (apart (texts l T)).length ≤ 8000 := by
  obtain ⟨_, hc, hT⟩ := all_tiles h
  have hL := tiles_lexes T 0 hT
  rw [List.drop_zero] at hL
  obtain ⟨W, hW, hw⟩ := apart_lexn _ _ hL
  have hlen : ∀ (W : List (Nat × List UInt8)) (t : List UInt8), Lexes W t → (apart W).length ≤ 2 * t.length := by
    intro W
    induction W with
    | nil => intro t ht; exact Nat.zero_le _
    | cons x W ih =>
      rintro t ⟨t', h1, h2, h3, h4, h5⟩
      have := ih t' h5
      have hp := (wide_le x.2).2
      rw [h1, show x = (x.1, x.2) from rfl, apart_cons, List.length_append, List.length_append, List.length_cons]
      dsimp only
      omega
  have hl2 := hlen _ _ hL
  have hclean : cleanAt (apart (texts l T)) (apart (texts l T)).length 0 = -1 := by
    rcases tiles_head hT hc with hp | ⟨x, V, e, e1, e2, e3, hp⟩
    · have := plain_clean (t := apart (texts l T)) (flat_plain fun x hx => (hp x hx).app plain10) [] (apart (texts l T)).length
      exact this
    · rw [e, apart_cons]
      exact mark_clean e1 e2 e3 (plain10.app (flat_plain fun y hy => (hp y hy).app plain10)) _
  obtain ⟨S, h1, h2⟩ := all_of hW hclean (by omega)
  exact ⟨S, h1, by rw [h2, hw], by omega⟩
end Go.Proofs.YtbkmlldhjchhjaaGreat
