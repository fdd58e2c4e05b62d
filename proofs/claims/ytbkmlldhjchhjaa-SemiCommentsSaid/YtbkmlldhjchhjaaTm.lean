/-
  Layer 8, plain: tokens written out with blanks between them (for the law SemiWritten).
-/
import Derived.Test.YtbkmlldhjchhjaaTl
namespace Go.Proofs.Ytbkmlldhjchhjaa

/-- tokens with a blank ahead of each -/
def written (V : List (Nat × List UInt8)) : List UInt8 := V.flatMap fun x => 32 :: x.2
theorem written_cons (y : Nat × List UInt8) (V : List (Nat × List UInt8)) : written (y :: V) = 32 :: (y.2 ++ written V) := rfl
def wlex (V : List (Nat × List UInt8)) : List (Nat × List UInt8) := V.flatMap fun x => [(10, [32]), x]
theorem wlex_cons (y : Nat × List UInt8) (V : List (Nat × List UInt8)) : wlex (y :: V) = (10, [32]) :: y :: wlex V := rfl
/-- a token that is read as itself -/
structure TokOk (x : Nat × List UInt8) : Prop where
  lex : lexL x.2 = (x.1, x.2.length)
  kind : x.1 ≠ 0
  loud : silentB x.1 = false
  wid : wide x.2 ≠ 0
  plain : Plain x.2
  own : tx x = x
theorem semi_ok : TokOk (9, [59]) := ⟨by kernel_rfl, Nat.succ_ne_zero 8, rfl, by show wide [59] ≠ 0; rw [(ascii_head 59 [] (by decide)).1]; decide, plain59, rfl⟩
theorem semiW_ok (o : Bool) : ∀ y ∈ semiW o, TokOk y := by
  intro y hy
  cases o with
  | false => cases hy
  | true =>
    have : y = (9, [59]) := List.mem_singleton.1 hy
    rw [this]; exact semi_ok
theorem outW_ok : ∀ (W : List (Nat × List UInt8)) (o : Bool), (∀ x ∈ W, silentB x.1 = false → TokOk (tx x)) → ∀ y ∈ outW o W, TokOk y
  | [], o, _, y, hy => semiW_ok o y hy
  | (k, x) :: W, o, h, y, hy => by
    have ih := fun o => outW_ok W o (fun z hz => h z (List.mem_cons_of_mem _ hz))
    cases hs : silentB k with
    | true =>
      cases hx : x.contains 10 with
      | true =>
        rw [outW_nl o hs hx] at hy
        rcases List.mem_append.1 hy with hy | hy
        · exact semiW_ok o y hy
        · exact ih _ y hy
      | false => rw [outW_no o hs hx] at hy; exact ih _ y hy
    | false =>
      rw [outW_loud o hs] at hy
      rcases List.mem_cons.1 hy with rfl | hy
      · exact h (k, x) (List.mem_cons_self ..) hs
      · exact ih _ y hy
theorem written_lexes : ∀ V : List (Nat × List UInt8), (∀ y ∈ V, TokOk y) → Lexes (wlex V) (written V)
  | [], _ => rfl
  | y :: V, h => by
    have hy := h y (List.mem_cons_self ..)
    have ih := written_lexes V (fun z hz => h z (List.mem_cons_of_mem _ hz))
    obtain ⟨n1, n2, n3⟩ := silent_not hy.loud
    have hl2 : lexL (y.2 ++ written V) = (y.1, y.2.length) := by
      cases V with
      | nil => show lexL (y.2 ++ []) = _; rw [List.append_nil]; exact hy.lex
      | cons z V =>
        rw [written_cons]
        exact lex_cut (v := []) (.inr rfl) hy.wid (by rw [List.append_nil]; exact hy.lex) (Nat.le_refl _) hy.kind n1 (fun e => absurd e n2) (fun h => absurd h (Nat.lt_irrefl _))
    have hs0 : spanLen isBlank (y.2 ++ written V) = 0 := by
      rcases Nat.eq_zero_or_pos (spanLen isBlank (y.2 ++ written V)) with e | e
      · exact e
      · rw [lex_blank (by omega)] at hl2
        exact absurd (Prod.mk.inj hl2).1.symm n1
    have hb : blankB 32 := .inr (.inr (.inr rfl))
    rw [wlex_cons, written_cons]
    refine ⟨y.2 ++ written V, rfl, ?_, Nat.succ_ne_zero 9, ?_, written V, rfl, hl2, hy.kind, hy.wid, ih⟩
    · have := span_blank hb (y.2 ++ written V)
      rw [lex_blank (by omega), this, hs0]; rfl
    · show wide [32] ≠ 0
      rw [(blank_head hb []).1]; decide
/-- no line's end puts a semicolon behind the last token -/
def okEnd : Bool → List (Nat × List UInt8) → Prop
  | o, [] => o = false
  | _, y :: V => okEnd (endsB y.1 y.2) V
theorem ends_nine (x : List UInt8) : endsB 9 x = false := ends_no (by omega) (by decide) (by decide)
theorem ends_tx (x : Nat × List UInt8) : endsB (tx x).1 (tx x).2 = endsB x.1 x.2 := by
  unfold tx
  by_cases h : x.1 = 9
  · show endsB x.1 _ = endsB x.1 x.2
    rw [h, ends_nine, ends_nine]
  · rw [if_neg h]
theorem okEnd_out : ∀ (W : List (Nat × List UInt8)) (o : Bool), okEnd o (outW o W)
  | [], false => rfl
  | [], true => ends_nine _
  | (k, x) :: W, o => by
    cases hs : silentB k with
    | true =>
      cases hx : x.contains 10 with
      | true =>
        rw [outW_nl o hs hx]
        cases o with
        | false => exact okEnd_out W false
        | true =>
          show okEnd (endsB 9 [59]) (outW false W)
          rw [ends_nine]; exact okEnd_out W false
      | false => rw [outW_no o hs hx]; exact okEnd_out W o
    | false =>
      rw [outW_loud o hs]
      show okEnd (endsB (tx (k, x)).1 (tx (k, x)).2) _
      rw [ends_tx]; exact okEnd_out W _
theorem out_wlex : ∀ (V : List (Nat × List UInt8)) (o : Bool), okEnd o V → (∀ y ∈ V, TokOk y) → outW o (wlex V) = V
  | [], o, h, _ => by
    have h : o = false := h
    subst h; rfl
  | (k, x) :: V, o, h, hv => by
    have hy := hv (k, x) (List.mem_cons_self ..)
    rw [wlex_cons, outW_no o rfl rfl, outW_loud o hy.loud, hy.own, out_wlex V _ h (fun z hz => hv z (List.mem_cons_of_mem _ hz))]
/-- nothing is put in -/
def NoIns : Bool → List (Nat × List UInt8) → Prop
  | o, [] => o = false
  | o, x :: W => if silentB x.1 = true then x.2.contains 10 = false ∧ NoIns o W else NoIns (endsB x.1 x.2) W
theorem noins_wlex : ∀ (V : List (Nat × List UInt8)) (o : Bool), okEnd o V → (∀ y ∈ V, TokOk y) → NoIns o (wlex V)
  | [], _, h, _ => h
  | (k, x) :: V, o, h, hv => by
    have hy := hv (k, x) (List.mem_cons_self ..)
    rw [wlex_cons]
    refine ⟨rfl, ?_⟩
    unfold NoIns
    rw [if_neg (by rw [hy.loud]; decide)]
    exact noins_wlex V _ h (fun z hz => hv z (List.mem_cons_of_mem _ hz))
theorem noins_mem (l : List UInt8) : ∀ (S : List (Nat × Nat × Nat)) (o : Option Nat), NoIns o.isSome (texts l S) → ∀ y ∈ sems l o S, y ∈ S
  | [], o, h, y, hy => by
    cases o with
    | none => exact hy
    | some z => exact absurd (show true = false from h) (by decide)
  | x :: S, o, h, y, hy => by
    have h : if silentB x.1 = true then (textAt l x).contains 10 = false ∧ NoIns o.isSome (texts l S) else NoIns (endsB x.1 (textAt l x)) (texts l S) := h
    cases hs : silentB x.1 with
    | true =>
      rw [if_pos hs] at h
      rw [sems_no hs h.1] at hy
      exact List.mem_cons_of_mem _ (noins_mem l S o h.2 y hy)
    | false =>
      rw [if_neg (by rw [hs]; decide)] at h
      rw [sems_loud l o x S hs] at hy
      rcases List.mem_cons.1 hy with rfl | hy
      · exact List.mem_cons_self ..
      · refine List.mem_cons_of_mem _ (noins_mem l S _ ?_ y hy)
        cases he : endsB x.1 (textAt l x) with
        | true => rw [he] at h; exact h
        | false => rw [he] at h; exact h
theorem written_app (A B : List (Nat × List UInt8)) : written (A ++ B) = written A ++ written B := by
  unfold written; rw [List.flatMap_append]
theorem written_len : ∀ (W : List (Nat × List UInt8)) (t : List UInt8) (o : Bool), Lexes W t → (written (outW o W)).length ≤ 4 * t.length + (if o = true then 2 else 0)
  | [], t, o, _ => by
    cases o with
    | false => show 0 ≤ _; omega
    | true => show 2 ≤ 4 * t.length + 2; omega
  | (k, x) :: W, t, o, ⟨t', h1, _, _, h4, h5⟩ => by
    have h1 : t = x ++ t' := h1
    have h4 : wide x ≠ 0 := h4
    have hp := (wide_le x).2
    have hl : t.length = x.length + t'.length := by rw [h1, List.length_append]
    cases hs : silentB k with
    | true =>
      cases hx : x.contains 10 with
      | true =>
        have ih := written_len W t' false h5
        rw [outW_nl o hs hx, written_app, List.length_append]
        rw [if_neg (by decide)] at ih
        have : (written (semiW o)).length ≤ if o = true then 2 else 0 := by
          cases o with
          | false => exact Nat.le_refl _
          | true => exact Nat.le_refl _
        omega
      | false =>
        have ih := written_len W t' o h5
        rw [outW_no o hs hx]
        omega
    | false =>
      have ih := written_len W t' (endsB k x) h5
      rw [outW_loud o hs, written_cons, List.length_cons, List.length_append]
      have h2 : (tx (k, x)).2.length ≤ x.length := by
        unfold tx
        dsimp only
        split
        · show 1 ≤ _; omega
        · exact Nat.le_refl _
      have h3 : (if endsB k x = true then 2 else 0) ≤ 2 := by split <;> omega
      omega
/-- a lexeme of a text, by itself -/
theorem tiles_tok {l : List UInt8} : ∀ (T : List (Nat × Nat × Nat)) (p : Nat), Tiles l p T → ∀ x ∈ texts l T, lexL x.2 = (x.1, x.2.length) ∧ x.1 ≠ 0 ∧ wide x.2 ≠ 0
  | [], _, _, x, hx => by cases hx
  | y :: T, p, h, x, hx => by
    obtain ⟨rfl, hk, h1, h2, h3, h4⟩ := h
    rcases List.mem_cons.1 hx with rfl | hx
    · obtain ⟨⟨k, n⟩, hq⟩ : ∃ y, y = lexL (l.drop p) := ⟨_, rfl⟩
      have hk0 : k ≠ 0 := by
        rintro rfl
        rw [lexV_none hq.symm] at hk
        exact absurd rfl hk
      obtain ⟨hx1, hw, _⟩ := lex_again (h3 l.length (by omega)) (by omega) (by omega) hq.symm hk0
      have hv := lexV_some hq.symm hk0
      rw [hv] at h1 h2
      have h1 : p < p + n := h1
      have h2 : p + n ≤ l.length := h2
      have hlen : ((l.drop p).take n).length = n := by rw [List.length_take, List.length_drop]; omega
      rw [hv]
      show lexL ((l.drop p).take (p + n - p)) = (k, ((l.drop p).take (p + n - p)).length) ∧ k ≠ 0 ∧ wide ((l.drop p).take (p + n - p)) ≠ 0
      rw [show p + n - p = n by omega, hlen]
      exact ⟨hx1, hk0, hw⟩
    · exact tiles_tok T _ h4 x hx
theorem tok_ok {l : List UInt8} {T : List (Nat × Nat × Nat)} (hc : cleanAt l l.length 0 = -1) (hT : Tiles l 0 T) : ∀ x ∈ texts l T, silentB x.1 = false → TokOk (tx x) := by
  intro x hx hs
  obtain ⟨h1, h2, h3⟩ := tiles_tok T 0 hT x hx
  by_cases h9 : x.1 = 9
  · have : tx x = (9, [59]) := by unfold tx; rw [if_pos h9, h9]
    rw [this]; exact semi_ok
  · have he : tx x = x := by unfold tx; rw [if_neg h9]
    rw [he]
    refine ⟨h1, h2, hs, h3, ?_, he⟩
    rcases tiles_head hT hc with hp | ⟨y, W, e, _, _, _, hp⟩
    · exact hp x hx
    · rw [e] at hx
      rcases List.mem_cons.1 hx with rfl | hx
      · exact absurd (show true = false from hs) (by decide)
      · exact hp x hx
theorem written_all {l : List UInt8} {T : List (Nat × Nat × Nat)} (h : allAns l = (T, 0, 0)) (hl : l.length ≤ 4000) :
    ∃ S, allAns (written (toksT l (sems l none T))) = (S, 0, 0) ∧ toksT (written (toksT l (sems l none T))) (sems (written (toksT l (sems l none T))) none S) = toksT l (sems l none T) ∧
      (∀ y ∈ sems (written (toksT l (sems l none T))) none S, y.2.1 < y.2.2) ∧ (written (toksT l (sems l none T))).length ≤ 16000 := by
  obtain ⟨_, hc, hT⟩ := all_tiles h
  have hL := tiles_lexes T 0 hT
  rw [List.drop_zero] at hL
  have ho := toks_out l T none
  rw [ho]
  have hok := outW_ok (texts l T) false (tok_ok hc hT)
  have hend := okEnd_out (texts l T) false
  have hlen := written_len _ _ false hL
  rw [if_neg (by decide)] at hlen
  have e : (none : Option Nat).isSome = false := rfl
  rw [e]
  obtain ⟨V, hV⟩ : ∃ V, V = outW false (texts l T) := ⟨_, rfl⟩
  rw [← hV] at hok hend hlen ⊢
  have hWl := written_lexes V hok
  have hclean : cleanAt (written V) (written V).length 0 = -1 :=
    plain_clean (t := written V) (flat_plain fun x hx => (show Plain ([32] ++ x.2) from plain32.app (hok x hx).plain)) [] (written V).length
  obtain ⟨S, h1, h2⟩ := all_of hWl hclean (by omega)
  refine ⟨S, h1, ?_, ?_, by omega⟩
  · have a1 := toks_out (written V) S none
    rw [h2] at a1
    rw [a1]
    exact out_wlex V false hend hok
  · intro y hy
    have hm := noins_mem (written V) S none (by rw [h2]; exact noins_wlex V false hend hok) y hy
    exact (tiles_bounds S 0 (all_tiles h1).2.2 y hm).1
theorem ord_mem {n : Nat} : ∀ (T : List (Nat × Nat × Nat)) (p : Nat), Ord n p T → ∀ x ∈ T, x.2.1 ≤ x.2.2 ∧ x.2.2 ≤ n
  | [], _, _, x, hx => by cases hx
  | y :: T, p, h, x, hx => by
    obtain ⟨h1, h2, h3, h4⟩ := h
    rcases List.mem_cons.1 hx with rfl | hx
    · exact ⟨h2, h3⟩
    · exact ord_mem T _ h4 x hx
end Go.Proofs.Ytbkmlldhjchhjaa
