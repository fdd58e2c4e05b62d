/-
  Layer 3: the law SpanFresh.
-/
import Derived.Test.YtigmakdfladjnaaGa
import Derived.OwnWalk
import Derived.Laws.OwnMore
namespace Go.Proofs.Ytigmakdfladjnaa
open Go.ChangeShapes Go.WideShapes Go.ChangeAt Go.RowKit

/-- a list stays where another block is written -/
theorem edits_grown {w w' : World} {a : Option Addr} {n r : Nat} {es : List Ed} (h : Edits w a n es) (hg : w.grownBy w' (some r)) (hne : ∀ g off, a = some ⟨g, off, none⟩ → g ≠ r) : Edits w' a n es := by
  refine ⟨h.1, fun k x hk => ?_⟩
  obtain ⟨g, off, e, c0, c1, c2⟩ := h.2 k x hk
  have hr : (some g : Option Nat) ≠ some r := fun e2 => hne g off e (Option.some.inj e2)
  exact ⟨g, off, e, hg.cell (a := ⟨g, _, none⟩) c0 hr, hg.cell (a := ⟨g, _, none⟩) c1 hr, hg.cell (a := ⟨g, _, none⟩) c2 hr⟩
/-- the cells of a list that came in -/
theorem edits_cells {w : World} {a : Option Addr} {n : Nat} {es : List Ed} (h : Edits w a n es) : ∀ ad, a = some ad → ∀ j u, (cells3 es)[j]? = some u → w.cell? (ad.add j) = some u := by
  intro ad ha j u hj
  have hjl : j < es.length * 3 := by rw [← cells3_len]; exact (List.getElem?_eq_some_iff.1 hj).1
  have hk : j / 3 < es.length := by omega
  obtain ⟨x, hx⟩ : ∃ x, es[j / 3]? = some x := ⟨es[j / 3], List.getElem?_eq_getElem hk⟩
  obtain ⟨g, off, e, c0, c1, c2⟩ := h.2 _ x hx
  obtain ⟨d0, d1, d2⟩ := cells3_at es _ x hx
  rw [ha] at e
  have e' := Option.some.inj e
  subst e'
  rw [add_plain]
  have h3 : j % 3 < 3 := Nat.mod_lt _ (by omega)
  rcases Nat.lt_or_ge (j % 3) 1 with h0 | h0
  · have ej : j = j / 3 * 3 := by omega
    rw [← ej] at c0 d0
    rw [c0, ← d0, hj]
  · rcases Nat.lt_or_ge (j % 3) 2 with h1 | h1
    · have ej : j = j / 3 * 3 + 1 := by omega
      rw [Nat.add_assoc, ← ej] at c1
      rw [← ej] at d1
      rw [c1, ← d1, hj]
    · have ej : j = j / 3 * 3 + 2 := by omega
      rw [Nat.add_assoc, ← ej] at c2
      rw [← ej] at d2
      rw [c2, ← d2, hj]

theorem cells3_one (es : List Ed) : ∀ u ∈ cells3 es, u.oneCell' = true := by
  intro u hu
  obtain ⟨x, _, hx⟩ := List.mem_flatMap.1 hu
  simp at hx
  rcases hx with rfl | rfl | rfl <;> rfl
theorem below_of_grown {w w' : World} (h : w.grownBy w' none) : Below w.heap.size w w' := (Below.refl _ w).grown h (Nat.le_refl _) (fun q hq => by cases hq)

theorem mine_edits' {w : World} {base : Nat} {v : Value} {es : List Ed} (h : Mine w base v es) : ∃ a cap, v = .slice a es.length cap ∧ Edits w a es.length es ∧ (∀ g off, a = some ⟨g, off, none⟩ → base ≤ g ∧ g < w.heap.size) := by
  obtain ⟨a, cap, rfl, h1, _⟩ := mine_edits h
  refine ⟨a, cap, rfl, h1, fun g off e => ?_⟩
  subst e
  exact h.lt g rfl
theorem edits_front {w : World} {a : Option Addr} {es : List Ed} {x : Ed} (h : Edits w a (es.length + 1) (es ++ [x])) : Edits w a es.length es := by
  refine ⟨rfl, fun k y hk => ?_⟩
  have hkl := (List.getElem?_eq_some_iff.1 hk).1
  exact h.2 k y (by rw [List.getElem?_append_left hkl]; exact hk)
theorem edits_row {w w' : World} {a : Option Addr} {n : Nat} {row : Option Nat} {es : List Ed} (h : Edits w a n es) (hg : w.grownBy w' row) (hne : ∀ g off, a = some ⟨g, off, none⟩ → some g ≠ row) : Edits w' a n es := by
  refine ⟨h.1, fun k x hk => ?_⟩
  obtain ⟨g, off, e, c0, c1, c2⟩ := h.2 k x hk
  have hr := hne g off e
  exact ⟨g, off, e, hg.cell (a := ⟨g, _, none⟩) c0 hr, hg.cell (a := ⟨g, _, none⟩) c1 hr, hg.cell (a := ⟨g, _, none⟩) c2 hr⟩
theorem grown_set {w wr : World} {g j : Nat} {u : Value} (h : w.grownBy wr (some g)) : w.grownBy (wr.setCell ⟨g, j, none⟩ u) (some g) := by
  refine ⟨h.os, h.tape, h.output, by simpa [World.setCell] using h.size, fun k hk hne => ?_⟩
  rw [← h.block k hk hne]
  have : k ≠ g := fun e => hne (by rw [e])
  simp [World.setCell, Array.getElem?_modify, Ne.symm this]

set_option maxHeartbeats 4000000 in
theorem spanFresh_in (s : ByteArray) (a : Option Addr) (n cap : Nat) (es : List Ed) (w : World) (he : Edits w a n es) (hn : n ≤ 4398046511103) (hnil : a = none → cap = 0) (U L : List Ed) (gu gl : Int) (hUl : U.length ≤ n) (hLl : L.length ≤ n)
    (h18 : ∀ w A c, Edits w A n es → Calls Try.prog 18 #[.string s, .slice A n c] w fun e w' => (∃ v, e = .returned (.tuple #[v, .int .i64 gu]) ∧ Mine w' w.heap.size v U) ∧ Below w.heap.size w w')
    (h20 : ∀ w A c, Edits w A n es → Calls Try.prog 20 #[.string s, .slice A n c] w fun e w' => (∃ v, e = .returned (.tuple #[v, .int .i64 gl]) ∧ Mine w' w.heap.size v L) ∧ Below w.heap.size w w')
    (h21 : ∀ w A c, Edits w A n es → Calls Try.prog 21 #[.string s, .slice A n c] w fun e w' => (∃ v, e = .returned (.tuple #[v, .int .i64 gl]) ∧ Mine w' w.heap.size v L) ∧ Below w.heap.size w w') :
    Calls Try.prog 10 #[.string s, .slice a n cap] w fun e w' => e = .returned (.bool true) ∧ Below w.heap.size w w' := by
  have hA : Below w.heap.size w w := Below.refl _ _
  have hlen := he.1
  obtain ⟨i0, hi, hz0, hz1, hz2⟩ := info_parts info36z
  go_enter Try.func10, Try.ntmps10
  go_wp2_with (first
    | (at_make; refine wpList_make_own _ rfl _ _ 22 rfl w.heap.size 36 i0 (.agg #[.int .i64 0, .int .i64 0, .string ⟨#[]⟩]) 3 Try.underlying22 hi hz0 hz1 .i64 .i64 _ (n + 1) rfl rfl (by omega) (by rw [hz2]; omega) (by unfold maxLen; omega) (Nat.le_refl _) ?_))
  intro w1 hown1 hg1
  have hB1 := below_of_grown hg1
  have he1 := edits_below he hB1
  have hn0 : a = none → n = 0 := fun h => by
    rcases Nat.eq_zero_or_pos n with h0 | h0
    · exact h0
    · obtain ⟨x, hx⟩ : ∃ x, es[0]? = some x := ⟨es[0]'(by omega), List.getElem?_eq_getElem (by omega)⟩
      obtain ⟨g, off, e, _⟩ := he.2 0 x hx
      rw [h] at e
      cases e
  have hno : a = none → n = 0 ∧ cap = 0 := fun h => ⟨hn0 h, hnil h⟩
  go_wp2_with (first
    | (at_builtin; refine wpList_append_fits_any _ rfl _ _ 22 rfl w.heap.size 36 i0 3 Try.underlying22 hi hz1 w.heap.size 0 (n + 1) [] rfl hown1 a n cap (cells3 es) rfl (by rw [cells3_len, hlen]) hno (edits_cells he1) (cells3_one es) (by omega) ?_))
  intro w2 hown2 hg2
  have hB2 : Below w.heap.size w w2 := hB1.grown hg2 hB1.size (fun q hq => by cases hq; exact Nat.le_refl _)
  clear hown1 hg1 hg2 hB1 he1 hno
  go_wp2_with (first
    | (at_builtin; refine wpList_append_fits _ rfl _ _ 22 rfl w.heap.size 36 i0 3 Try.underlying22 hi hz1 w.heap.size n (n + 1) (cells3 es) rfl (hown2.alloc _) ⟨w2.heap.size, 0, none⟩ 1 1 [.int .i64 7, .int .i64 0, .string ⟨#[]⟩] rfl rfl (three_new _ _ _ _ _) (by intro u hu; simp at hu; rcases hu with rfl | rfl | rfl <;> rfl) (by omega) ?_))
  intro w3 hown3 hg3
  have hB3 : Below w.heap.size w w3 := (hB2.alloc hB2.size _).grown hg3 (by have := hB2.size; simp; omega) (fun q hq => by cases hq; exact Nat.le_refl _)
  clear hown2 hg3 hB2 hi hz0 hz1 hz2
  have hX : Edits w3 (some ⟨w.heap.size, 0, none⟩) (es.length + 1) (es ++ [⟨7, 0, ⟨#[]⟩⟩]) := by
    have hM : Mine w3 w.heap.size (.slice (some ⟨w.heap.size, 0, none⟩) (n + 1) (n + 1)) (es ++ [⟨7, 0, ⟨#[]⟩⟩]) := by
      unfold Mine
      rw [cells3_app, List.length_append, hlen]
      exact hown3
    obtain ⟨A, c, e, h1, _⟩ := mine_edits hM
    injection e with e1 e2 e3
    rw [List.length_append] at h1
    subst e1
    exact h1
  have hG := edits_front hX
  rw [hlen] at hG
  have hL := edits_below he hB3
  have hsz3 := hB3.size
  have hlt3 : w.heap.size < w3.heap.size := by
    rcases hown3.2 with ⟨h, _⟩ | ⟨g, _, _, e, _, hg, _⟩
    · cases h
    · injection e with e1; cases e1; exact (Array.getElem?_eq_some_iff.1 hg).1
  have H18 := Lib.hid h18
  have H20 := Lib.hid h20
  have H21 := Lib.hid h21
  have HX := Lib.hid hX
  clear h18 h20 h21 hown3 hX
  have TOK1 : True := trivial
  have TOK2 : True ∧ True := ⟨trivial, trivial⟩
  go_wp2_with (first
    | (go_at_call 18; clear TOK1; refine (H18.out _ _ _ hG).mono ?_; rintro e w4 ⟨⟨va, rfl, hMa⟩, hBa⟩; replace hG := edits_below hG hBa; obtain ⟨A, ca, rfl, hEa, hPa⟩ := mine_edits' hMa)
    | (go_at_call 18; refine (H18.out _ _ _ hG).mono ?_; rintro e w5 ⟨⟨vb, rfl, hMb⟩, hBb⟩; replace hG := edits_below hG hBb; obtain ⟨B, cb, rfl, hEb, hPb⟩ := mine_edits' hMb)
    | (go_at_call 20; clear TOK2; refine (H20.out _ _ _ hG).mono ?_; rintro e w6 ⟨⟨vc, rfl, hMc⟩, hBc⟩; replace hG := edits_below hG hBc; obtain ⟨C, cc, rfl, hEc, hPc⟩ := mine_edits' hMc)
    | (go_at_call 20; refine (H20.out _ _ _ hG).mono ?_; rintro e w7 ⟨⟨vd, rfl, hMd⟩, hBd⟩; replace hG := edits_below hG hBd; obtain ⟨D, cd, rfl, hEd, hPd⟩ := mine_edits' hMd))
  have hra := hMa.lt
  have hrc := hMc.lt
  have hMa7 := mine_below (mine_below (mine_below hMa hBb) hBc) hBd
  have hEb7 := edits_below (edits_below hEb hBc) hBd
  have hMc7 := mine_below hMc hBd
  have hX7 := edits_below (edits_below (edits_below (edits_below HX.out hBa) hBb) hBc) hBd
  have hL7 := edits_below (edits_below (edits_below (edits_below hL hBa) hBb) hBc) hBd
  have hB7 := below_chain (below_chain (below_chain (below_chain hB3 hBa) hBb) hBc) hBd
  have s4 := hBa.size
  have s5 := hBb.size
  have s6 := hBc.size
  have s7 := hBd.size
  have hLb : ∀ g off, a = some ⟨g, off, none⟩ → 0 < n → g < w.heap.size := by
    intro g off e h0
    obtain ⟨x, hx⟩ : ∃ x, es[0]? = some x := ⟨es[0]'(by omega), List.getElem?_eq_getElem (by omega)⟩
    obtain ⟨g2, off2, e2, c0, _⟩ := he.2 0 x hx
    rw [e] at e2
    cases e2
    exact cell_lt c0
  clear hMa hEa hEb hMb hMc hEc hMd hBa hBb hBc hBd hL HX hB3 hG
  have HRA := Lib.hid hra
  have HRC := Lib.hid hrc
  clear hra hrc
  have HPA := Lib.hid hPa
  have HPB := Lib.hid hPb
  have HPC := Lib.hid hPc
  have HPD := Lib.hid hPd
  have HLB := Lib.hid hLb
  have HB7 := Lib.hid hB7
  have HEB := Lib.hid hEb7
  have HED := Lib.hid hEd
  have HMC := Lib.hid hMc7
  have HX7 := Lib.hid hX7
  have HL7 := Lib.hid hL7
  clear hPa hPb hPc hPd hLb hB7 hEb7 hEd hMc7 hX7 hL7
  go_loopw [14] (fun ii wr => ∃ (i : Nat) (xs : List Value), i ≤ U.length ∧ ii = .int .i64 i ∧ w7.grownBy wr (Value.slice A U.length ca).ownBlock ∧ wr.ownsRow w3.heap.size 36 3 (.slice A U.length ca) U.length xs) (fun ii _ => U.length - (intOf ii).toNat)
  case atStart => exact ⟨0, _, Nat.zero_le _, rfl, World.grownBy.refl _ _, hMa7⟩
  case round =>
    clear hMa7
    obtain ⟨i, xs, hi, rfl, hgr, hown⟩ := hrel
    by_cases hlt : i < U.length
    · obtain ⟨ga, rfl⟩ : ∃ ga, A = some ⟨ga, 0, none⟩ := by
        rcases hown.2 with ⟨_, h0⟩ | ⟨g, _, _, e, _⟩
        · omega
        · injection e with e1; exact ⟨g, e1⟩
      have hxl : xs.length = U.length * 3 := hown.1
      have hc := hown.cellAt (i * 3 + 2) (by omega)
      rw [List.getElem?_eq_getElem (by omega)] at hc
      have hf := hown.frozenAt (i * 3 + 2)
      have hg2 := grown_set (j := i * 3 + 2) (u := .string ⟨#[63]⟩) hgr
      have ho2 := (hown.stored (i * 3 + 2) (.string ⟨#[63]⟩)).1
      generalize xs[i * 3 + 2]'(by omega) = u0 at hc
      have HG2 := Lib.hid hg2
      have HO2 := Lib.hid ho2
      have i1 : (i : Int) < (U.length : Int) := by omega
      clear hgr hown hg2 ho2 hxl
      go_wp2
      go_roundw
      case rel => exact ⟨i + 1, _, by omega, by go_num, HG2.out, HO2.out⟩
      case measure => simp [intOf]; omega
    · obtain rfl : i = U.length := by omega
      clear hlt hi hown
      obtain ⟨rowA, hrowA⟩ : ∃ r, r = (Value.slice A U.length ca).ownBlock := ⟨_, rfl⟩
      have hra : ∀ q, rowA = some q → w3.heap.size ≤ q ∧ q < w4.heap.size := fun q hq => HRA.out q (hrowA ▸ hq)
      rw [← hrowA] at hgr
      obtain ⟨w8, hw8⟩ : ∃ w8, w8 = wr := ⟨_, rfl⟩
      rw [← hw8] at hgr ⊢
      clear hrowA hw8
      have hEb8 := edits_row HEB.out hgr (fun g off e e2 => by have := (HPB.out g off e).1; have := hra g e2.symm; omega)
      have hEd8 := edits_row HED.out hgr (fun g off e e2 => by have := (HPD.out g off e).1; have := hra g e2.symm; omega)
      have hX8 := edits_row HX7.out hgr (fun g off e e2 => by cases e; have := hra _ e2.symm; omega)
      have hL8 : Edits w8 a n es := by
        rcases Nat.eq_zero_or_pos n with h0 | h0
        · exact ⟨hlen, fun k x hk => by have := (List.getElem?_eq_some_iff.1 hk).1; omega⟩
        · exact edits_row HL7.out hgr (fun g off e e2 => by have := HLB.out g off e h0; have := hra g e2.symm; omega)
      have hMc8 : Mine w8 w5.heap.size (.slice C L.length cc) L := World.ownsRow.kept HMC.out hgr (by
        cases h : (Value.slice C L.length cc).ownBlock with
        | none => exact .inl rfl
        | some q => exact .inr (fun e => by have := HRC.out q h; have := hra q e.symm; omega))
      have hB8 : Below w.heap.size w w8 := HB7.out.grown hgr (by have := HB7.out.size; omega) (fun q hq => by have := hra q hq; omega)
      clear hgr hra
      have HEB8 := Lib.hid hEb8
      have HED8 := Lib.hid hEd8
      have HX8 := Lib.hid hX8
      have HL8 := Lib.hid hL8
      have HB8 := Lib.hid hB8
      clear hEb8 hEd8 hX8 hL8 hB8 HEB HED HX7 HL7 HB7 HMC
      go_wp2
      go_loopw [15] (fun ii wr => ∃ (i : Nat) (xs : List Value), i ≤ L.length ∧ ii = .int .i64 i ∧ w8.grownBy wr (Value.slice C L.length cc).ownBlock ∧ wr.ownsRow w5.heap.size 36 3 (.slice C L.length cc) L.length xs) (fun ii _ => L.length - (intOf ii).toNat)
      case atStart => exact ⟨0, _, Nat.zero_le _, rfl, World.grownBy.refl _ _, hMc8⟩
      case round =>
        clear hMc8
        obtain ⟨i, xs, hi, rfl, hgr, hown⟩ := hrel
        by_cases hlt : i < L.length
        · obtain ⟨ga, rfl⟩ : ∃ ga, C = some ⟨ga, 0, none⟩ := by
            rcases hown.2 with ⟨_, h0⟩ | ⟨g, _, _, e, _⟩
            · omega
            · injection e with e1; exact ⟨g, e1⟩
          have hxl : xs.length = L.length * 3 := hown.1
          have hc := hown.cellAt (i * 3 + 2) (by omega)
          rw [List.getElem?_eq_getElem (by omega)] at hc
          have hf := hown.frozenAt (i * 3 + 2)
          have hg2 := grown_set (j := i * 3 + 2) (u := .string ⟨#[63]⟩) hgr
          have ho2 := (hown.stored (i * 3 + 2) (.string ⟨#[63]⟩)).1
          generalize xs[i * 3 + 2]'(by omega) = u0 at hc
          have HG2 := Lib.hid hg2
          have HO2 := Lib.hid ho2
          have i1 : (i : Int) < (L.length : Int) := by omega
          clear hgr hown hg2 ho2 hxl
          go_wp2
          go_roundw
          case rel => exact ⟨i + 1, _, by omega, by go_num, HG2.out, HO2.out⟩
          case measure => simp [intOf]; omega
        · obtain rfl : i = L.length := by omega
          clear hlt hi hown
          obtain ⟨rowC, hrowC⟩ : ∃ r, r = (Value.slice C L.length cc).ownBlock := ⟨_, rfl⟩
          have hrc : ∀ q, rowC = some q → w5.heap.size ≤ q ∧ q < w6.heap.size := fun q hq => HRC.out q (hrowC ▸ hq)
          rw [← hrowC] at hgr
          obtain ⟨w9, hw9⟩ : ∃ w9, w9 = wr := ⟨_, rfl⟩
          rw [← hw9] at hgr ⊢
          clear hrowC hw9
          have hEb := edits_row HEB8.out hgr (fun g off e e2 => by have := (HPB.out g off e).2; have := hrc g e2.symm; omega)
          have hEd := edits_row HED8.out hgr (fun g off e e2 => by have := (HPD.out g off e).1; have := hrc g e2.symm; omega)
          have hX9 := edits_row HX8.out hgr (fun g off e e2 => by cases e; have := hrc _ e2.symm; omega)
          have hL : Edits w9 a n es := by
            rcases Nat.eq_zero_or_pos n with h0 | h0
            · exact ⟨hlen, fun k x hk => by have := (List.getElem?_eq_some_iff.1 hk).1; omega⟩
            · exact edits_row HL8.out hgr (fun g off e e2 => by have := HLB.out g off e h0; have := hrc g e2.symm; omega)
          replace hA : Below w.heap.size w w9 := HB8.out.grown hgr (by have := HB8.out.size; omega) (fun q hq => by have := hrc q hq; omega)
          have hG := edits_front hX9
          rw [hlen] at hG
          obtain ⟨g0, off0, eg, c0, c1, c2⟩ := hX9.2 es.length ⟨7, 0, ⟨#[]⟩⟩ (by simp)
          cases eg
          rw [hlen, Nat.zero_add] at c0 c1 c2
          dsimp only at c0 c1 c2
          clear hgr hrc HEB8 HED8 HX8 HL8 HB8 hX9
          have hsame := fun (E : List Ed) w A B ca cb (hm : E.length ≤ maxLen) (he : Edits w A E.length E) (hf : Edits w B E.length E) => same_any w A B E.length E.length ca cb E E he hf hm
          have hsn := fun w A B ca cb (he : Edits w A n es) (hf : Edits w B n es) => same_any w A B n n ca cb es es he hf (by unfold maxLen; omega)
          rw [same_self] at hsn
          have HN := Lib.hid hsn
          have hsame2 : ∀ (E : List Ed) w A B ca cb, E.length ≤ maxLen → Edits w A E.length E → Edits w B E.length E → Calls Try.prog 19 #[.slice A E.length ca, .slice B E.length cb] w fun e w' => e = .returned (.bool true) ∧ Below w.heap.size w w' := fun E w A B ca cb hm he hf => by
            have := hsame E w A B ca cb hm he hf
            rw [same_self] at this
            exact this
          have HS := Lib.hid hsame2
          have heq := fun w => ed_eql ⟨7, 0, ⟨#[]⟩⟩ ⟨7, 0, ⟨#[]⟩⟩ w
          rw [alike_self] at heq
          dsimp only at heq
          have hgd := fun u v xs ys w => ed_guard' u v xs ys w
          clear hsame hsame2 hsn
          have hUm : U.length ≤ maxLen := by unfold maxLen; omega
          have hLm : L.length ≤ maxLen := by unfold maxLen; omega
          have TOK3 : True := trivial
          have TOK4 : True ∧ True := ⟨trivial, trivial⟩
          go_wp2_with (first
            | (go_at_call 18; refine (H18.out _ _ _ hL).mono ?_; rintro e w10 ⟨⟨vx, rfl, hMx⟩, hB⟩; obtain ⟨X, cx, rfl, hEx, _⟩ := mine_edits' hMx; replace hL := edits_below hL hB; replace hEb := edits_below hEb hB; replace hEd := edits_below hEd hB; replace hG := edits_below hG hB; replace c0 := cell_keep c0 hB; replace c1 := cell_keep c1 hB; replace c2 := cell_keep c2 hB; replace hA := below_chain hA hB; clear hB hMx)
            | (go_at_call 21; refine (H21.out _ _ _ hL).mono ?_; rintro e w11 ⟨⟨vy, rfl, hMy⟩, hB⟩; obtain ⟨Y, cy, rfl, hEy, _⟩ := mine_edits' hMy; replace hL := edits_below hL hB; replace hEb := edits_below hEb hB; replace hEd := edits_below hEd hB; replace hEx := edits_below hEx hB; replace hG := edits_below hG hB; replace c0 := cell_keep c0 hB; replace c1 := cell_keep c1 hB; replace c2 := cell_keep c2 hB; replace hA := below_chain hA hB; clear hB hMy)
            | (go_at_call 11; refine (fixed_any _).mono ?_; rintro e w12 ⟨rfl, hB⟩; replace hEb := edits_below hEb hB; replace hEd := edits_below hEd hB; replace hEx := edits_below hEx hB; replace hEy := edits_below hEy hB; replace hL := edits_below hL hB; replace hG := edits_below hG hB; replace c0 := cell_keep c0 hB; replace c1 := cell_keep c1 hB; replace c2 := cell_keep c2 hB; replace hA := below_chain hA hB; clear hB)
            | (go_at_call 19; clear TOK3; refine (HS.out U _ _ _ _ _ hUm hEb hEx).mono ?_; rintro e w13 ⟨rfl, hB⟩; replace hEd := edits_below hEd hB; replace hEy := edits_below hEy hB; replace hL := edits_below hL hB; replace hG := edits_below hG hB; replace c0 := cell_keep c0 hB; replace c1 := cell_keep c1 hB; replace c2 := cell_keep c2 hB; replace hA := below_chain hA hB; clear hB)
            | (go_at_call 19; clear TOK4; refine (HS.out L _ _ _ _ _ hLm hEd hEy).mono ?_; rintro e w14 ⟨rfl, hB⟩; replace hL := edits_below hL hB; replace hG := edits_below hG hB; replace c0 := cell_keep c0 hB; replace c1 := cell_keep c1 hB; replace c2 := cell_keep c2 hB; replace hA := below_chain hA hB; clear hB)
            | (go_at_call 19; refine (HN.out _ _ _ _ _ hG hL).mono ?_; rintro e w15 ⟨rfl, hB⟩; replace c0 := cell_keep c0 hB; replace c1 := cell_keep c1 hB; replace c2 := cell_keep c2 hB; replace hA := below_chain hA hB; clear hB))
          go_ret
          exact ⟨rfl, hA⟩
theorem nil_cap {H : Type} {enc : TypeId × Value → H} {W : World} {len cap : Nat} {d : DataW H} {p : List MemPlace} (h : DataW.Trod enc Try.prog W 0 (fun _ => true) true 22 (.slice none len cap) d p) : cap = 0 := by
  obtain ⟨fuel, hf⟩ := h
  rcases Go.Deep.open_slice Try.underlying22 hf with ⟨hcs, _⟩ | ⟨a, len, cap, m, n, D, Pl, hcs, _⟩
  · simp [Value.cells] at hcs
    exact hcs.2
  · simp [Value.cells] at hcs
theorem spanFresh_walk (s : ByteArray) (a : Option Addr) (n cap : Nat) (es : List Ed) (w : World) (hs : s.size ≤ maxLen) (he : Edits w a n es) (hn : n ≤ 4398046511103) (hnil : a = none → cap = 0) (htx : ∀ x ∈ es, x.tx.size ≤ maxLen) :
    Calls Try.prog 10 #[.string s, .slice a n cap] w fun e w' => e = .returned (.bool true) ∧ Below w.heap.size w w' := by
  have hn' : n ≤ maxLen := by unfold maxLen; omega
  have hlen := trimmed_len s es
  rw [he.1] at hlen
  refine spanFresh_in s a n cap es w he hn hnil (if (applied s es).2 = 0 then undos s 0 es else []) (trimmedList s es) (applied s es).2 (refused s es) ?_ hlen (fun w A c h => ?_) (fun w A c h => ?_) (fun w A c h => ?_)
  · split
    · rw [undos_len, he.1]; exact Nat.le_refl _
    · exact Nat.zero_le _
  · refine (undo_any s w A n c es h hn (fun w h => apply_any s w A n c es h hn' hs)).mono ?_
    rintro e w' ⟨⟨v, L, e1, e2, e3⟩, hB⟩
    subst e3
    exact ⟨⟨v, e1, e2⟩, hB⟩
  · refine (trim_any s hs w A n c es h hn htx).mono ?_
    rintro e w' ⟨⟨v, L, e1, e2, e3⟩, hB⟩
    subst e3
    exact ⟨⟨v, e1, e2⟩, hB⟩
  · refine (rtrim_any s hs w A n c es h hn htx).mono ?_
    rintro e w' ⟨⟨v, L, e1, e2, e3⟩, hB⟩
    subst e3
    exact ⟨⟨v, e1, e2⟩, hB⟩
end Go.Proofs.Ytigmakdfladjnaa
