/-
  Layer 3: the law SpanUndoes.
-/
import Derived.Test.YtigmakdfladjnaaDa
namespace Go.Proofs.Ytigmakdfladjnaa
open Go.ChangeShapes Go.WideShapes Go.ChangeAt Go.RowKit

set_option maxHeartbeats 2000000 in
theorem spanUndoes_no (s : ByteArray) (a : Option Addr) (n cap : Nat) (es : List Ed) (g : Int) (w : World) (he : Edits w a n es) (hg : g ≠ 0)
    (h1 : ∀ w, Edits w a n es → Calls Try.prog 14 #[.string s, .slice a n cap] w fun e w' => e = .returned (.tuple #[.string ⟨#[]⟩, .int .i64 g]) ∧ Below w.heap.size w w')
    (h2 : ∀ w, Edits w a n es → Calls Try.prog 18 #[.string s, .slice a n cap] w fun e w' => (∃ A c, e = .returned (.tuple #[.slice A 0 c, .int .i64 g])) ∧ Below w.heap.size w w') :
    Calls Try.prog 6 #[.string s, .slice a n cap] w fun e w' => e = .returned (.bool true) ∧ Below w.heap.size w w' := by
  have hA : Below w.heap.size w w := Below.refl _ _
  have H1 := Lib.hid h1
  have H2 := Lib.hid h2
  clear h1 h2
  have hq : (g == 0) = false := beq_eq_false_iff_ne.2 hg
  have hem := empty_yes ⟨#[]⟩ rfl
  go_enter Try.func6, Try.ntmps6
  go_wp2_with (first
    | (go_at_call 11; refine (fixed_any _).mono ?_; rintro e w1 ⟨rfl, hB⟩; replace he := edits_below he hB; replace hA := below_chain hA hB; clear hB)
    | (go_at_call 14; refine (H1.out _ he).mono ?_; rintro e w2 ⟨rfl, hB⟩; replace he := edits_below he hB; replace hA := below_chain hA hB; clear hB)
    | (go_at_call 18; refine (H2.out _ he).mono ?_; rintro e w3 ⟨⟨A, c, rfl⟩, hB⟩; replace hA := below_chain hA hB; clear hB))
  go_ret
  exact ⟨rfl, hA⟩

set_option maxHeartbeats 4000000 in
theorem spanUndoes_yes (s t : ByteArray) (a : Option Addr) (n cap : Nat) (es U : List Ed) (w : World) (he : Edits w a n es) (hn : n ≤ maxLen) (hs : s.size ≤ 65536) (ht : t.size ≤ 65536) (hU : U.length = n)
    (h1 : ∀ w, Edits w a n es → Calls Try.prog 14 #[.string s, .slice a n cap] w fun e w' => e = .returned (.tuple #[.string t, .int .i64 0]) ∧ Below w.heap.size w w')
    (h2 : ∀ w, Edits w a n es → Calls Try.prog 18 #[.string s, .slice a n cap] w fun e w' => (∃ A c, e = .returned (.tuple #[.slice A n c, .int .i64 0]) ∧ Edits w' A n U) ∧ Below w.heap.size w w')
    (h3 : ∀ w A c, Edits w A n U → Calls Try.prog 14 #[.string t, .slice A n c] w fun e w' => e = .returned (.tuple #[.string s, .int .i64 0]) ∧ Below w.heap.size w w')
    (h4 : ∀ w A c, Edits w A n U → Calls Try.prog 12 #[.int .i64 t.size, .slice A n c] w fun e w' => e = .returned (.int .i64 0) ∧ Below w.heap.size w w')
    (h5 : ∀ w A c, Edits w A n U → Calls Try.prog 18 #[.string t, .slice A n c] w fun e w' => (∃ B d, e = .returned (.tuple #[.slice B n d, .int .i64 0]) ∧ Edits w' B n es) ∧ Below w.heap.size w w')
    (hel : ∀ (i : Nat) (x y : Ed), es[i]? = some x → U[i]? = some y → t.extract y.lo.toNat y.hi.toNat = x.tx ∧ y.tx = s.extract x.lo.toNat x.hi.toNat ∧ Good t y ∧ Good s x) :
    Calls Try.prog 6 #[.string s, .slice a n cap] w fun e w' => e = .returned (.bool true) ∧ Below w.heap.size w w' := by
  have hA : Below w.heap.size w w := Below.refl _ _
  have hlen := he.1
  have H1 := Lib.hid h1
  have H2 := Lib.hid h2
  have H3 := Lib.hid h3
  have H4 := Lib.hid h4
  have H5 := Lib.hid h5
  have HE := Lib.hid hel
  have hsame := fun w A B ca cb (he : Edits w A n es) (hf : Edits w B n es) => same_any w A B n n ca cb es es he hf hn
  rw [same_self] at hsame
  have HS := Lib.hid hsame
  clear h1 h2 h3 h4 h5 hel hsame
  unfold maxLen at hn
  have TOK1 : True := trivial
  have TOK2 : True ∧ True := ⟨trivial, trivial⟩
  go_enter Try.func6, Try.ntmps6
  go_wp2_with (first
    | (go_at_call 11; refine (fixed_any _).mono ?_; rintro e w1 ⟨rfl, hB⟩; replace he := edits_below he hB; replace hA := below_chain hA hB; clear hB)
    | (go_at_call 14; clear TOK1; refine (H1.out _ he).mono ?_; rintro e w2 ⟨rfl, hB⟩; replace he := edits_below he hB; replace hA := below_chain hA hB; clear hB)
    | (go_at_call 18; clear TOK2; refine (H2.out _ he).mono ?_; rintro e w3 ⟨⟨A, c, rfl, hu⟩, hB⟩; replace he := edits_below he hB; replace hA := below_chain hA hB; clear hB)
    | (go_at_call 14; refine (H3.out _ _ _ hu).mono ?_; rintro e w4 ⟨rfl, hB⟩; replace he := edits_below he hB; replace hu := edits_below hu hB; replace hA := below_chain hA hB; clear hB)
    | (go_at_call 12; refine (H4.out _ _ _ hu).mono ?_; rintro e w5 ⟨rfl, hB⟩; replace he := edits_below he hB; replace hu := edits_below hu hB; replace hA := below_chain hA hB; clear hB))
  go_loopw [11] (fun i wr => ∃ k : Nat, k ≤ n ∧ i = .int .i64 k ∧ Below w5.heap.size w5 wr) (fun i _ => n - (intOf i).toNat)
  case atStart => exact ⟨0, Nat.zero_le _, rfl, Below.refl _ _⟩
  case round =>
    obtain ⟨k, hk, rfl, hB⟩ := hrel
    by_cases hlt : k < n
    · obtain ⟨x, hxk⟩ : ∃ x, es[k]? = some x := ⟨es[k]'(by omega), List.getElem?_eq_getElem (by omega)⟩
      obtain ⟨y, hyk⟩ : ∃ y, U[k]? = some y := ⟨U[k]'(by omega), List.getElem?_eq_getElem (by omega)⟩
      obtain ⟨r1, r2, ⟨p1, p2, p3⟩, ⟨q1, q2, q3⟩⟩ := HE.out k x y hxk hyk
      obtain ⟨g, off, rfl, c0, c1, c2⟩ := (edits_below he hB).2 k x hxk
      obtain ⟨g2, off2, rfl, e0, e1, e2⟩ := (edits_below hu hB).2 k y hyk
      have hsT : ∀ w : World, (Instr.slice 9 (.string t) (some (.int .i64 y.lo)) (some (.int .i64 y.hi)) none).run Try.prog w = .ok (.string x.tx) w := fun w => by
        have := slice_str t y.lo.toNat y.hi.toNat (by omega) (by omega) w
        rw [r1] at this
        rwa [show ((y.lo.toNat : Nat) : Int) = y.lo by omega, show ((y.hi.toNat : Nat) : Int) = y.hi by omega] at this
      have hsS : ∀ w : World, (Instr.slice 9 (.string s) (some (.int .i64 x.lo)) (some (.int .i64 x.hi)) none).run Try.prog w = .ok (.string y.tx) w := fun w => by
        have := slice_str s x.lo.toNat x.hi.toNat (by omega) (by omega) w
        rw [← r2] at this
        rwa [show ((x.lo.toNat : Nat) : Int) = x.lo by omega, show ((x.hi.toNat : Nat) : Int) = x.hi by omega] at this
      have i1 : (k : Int) < (n : Int) := by omega
      clear r1 r2 p1 p2 p3 q1 q2 q3 hxk hyk
      obtain ⟨xl, xh, xt⟩ := x
      obtain ⟨yl, yh, yt⟩ := y
      dsimp only at c0 c1 c2 e0 e1 e2 hsT hsS
      go_wp2
      go_quiet (fail)
      go_wp2
      go_roundw
      case rel => exact ⟨k + 1, by omega, by go_num, below_drewN hB _⟩
      case measure => simp [intOf]; omega
    · obtain rfl : k = n := by omega
      replace he := edits_below he hB
      replace hu := edits_below hu hB
      replace hA := below_chain hA hB
      clear hB
      go_wp2_with (first
        | (go_at_call 18; refine (H5.out _ _ _ hu).mono ?_; rintro e w6 ⟨⟨B, d, rfl, hz⟩, hB⟩; replace he := edits_below he hB; replace hA := below_chain hA hB; clear hB)
        | (go_at_call 19; refine (HS.out _ _ _ _ _ hz he).mono ?_; rintro e w7 ⟨rfl, hB⟩; replace hA := below_chain hA hB; clear hB))
      go_ret
      exact ⟨by simp, hA⟩

theorem applied_no {s : ByteArray} {es : List Ed} (h : (applied s es).2 ≠ 0) : (applied s es).1 = [] := by
  unfold applied at h ⊢
  split
  · rename_i h1
    rw [if_pos h1] at h
    split
    · rfl
    · rename_i h2
      rw [if_neg h2] at h
      exact absurd rfl h
  · rfl
theorem applied_yes {s : ByteArray} {es : List Ed} (hr : refused s es = 0) (hT : (textOf s.data.toList 0 es).length ≤ 65536) : applied s es = (textOf s.data.toList 0 es, 0) := by
  unfold applied
  rw [if_pos hr, if_neg (by omega)]
theorem undo_ed (s : ByteArray) (w : World) (a : Option Addr) (n cap : Nat) (es : List Ed) (he : Edits w a n es) (hn : n ≤ 4398046511103)
    (hap : ∀ w, Edits w a n es → Calls Try.prog 14 #[.string s, .slice a n cap] w fun e w' => e = .returned (.tuple #[.string ⟨(applied s es).1.toArray⟩, .int .i64 (applied s es).2]) ∧ Below w.heap.size w w') :
    Calls Try.prog 18 #[.string s, .slice a n cap] w fun e w' => (∃ A c L, e = .returned (.tuple #[.slice A L.length c, .int .i64 (applied s es).2]) ∧ Edits w' A L.length L ∧ L = (if (applied s es).2 = 0 then undos s 0 es else [])) ∧ Below w.heap.size w w' := by
  refine (undo_any s w a n cap es he hn hap).mono ?_
  rintro e w' ⟨⟨v, L, e1, e2, e3⟩, hB⟩
  obtain ⟨A, c, rfl, h1, _⟩ := mine_edits e2
  exact ⟨⟨A, c, L, e1, h1, e3⟩, hB⟩
/-- what undoing means, of an edited text -/
theorem undo_all (s : ByteArray) (es : List Ed) (hr : refused s es = 0) (hT : (textOf s.data.toList 0 es).length ≤ 65536) :
    ∃ tb : ByteArray, tb = ⟨(textOf s.data.toList 0 es).toArray⟩ ∧ tb.size ≤ 65536 ∧ refused tb (undos s 0 es) = 0 ∧ applied tb (undos s 0 es) = (s.data.toList, 0) ∧ undos tb 0 (undos s 0 es) = es ∧ puts (undos s 0 es) ≤ s.size ∧ checked' tb.size (undos s 0 es) = 0 ∧
      ∀ (i : Nat) (x y : Ed), es[i]? = some x → (undos s 0 es)[i]? = some y → tb.extract y.lo.toNat y.hi.toNat = x.tx ∧ y.tx = s.extract x.lo.toNat x.hi.toNat ∧ Good tb y ∧ Good s x := by
  obtain ⟨hs, hst⟩ := refused_ok hr
  refine ⟨⟨(textOf s.data.toList 0 es).toArray⟩, rfl, hT, ?_⟩
  obtain ⟨tb, htb⟩ : ∃ tb : ByteArray, tb = ⟨(textOf s.data.toList 0 es).toArray⟩ := ⟨_, rfl⟩
  have htl : tb.data.toList = [] ++ textOf s.data.toList 0 es := by rw [htb]; simp
  have hts : tb.size ≤ 65536 := by rw [htb]; exact hT
  rw [← htb]
  obtain ⟨b1, b2, b3, b4, b5⟩ := undo_back s tb es 0 0 [] hst (Nat.zero_le _) rfl htl
  have hr2 : refused tb (undos s 0 es) = 0 := by unfold refused checked'; rw [if_neg (by omega), if_neg (by omega)]; rw [show stands (tb.size : Int) 0 (undos s 0 es) = true from b1]; rfl
  have hb2 : textOf tb.data.toList 0 (undos s 0 es) = s.data.toList := b2
  refine ⟨hr2, ?_, by simpa using b3, by omega, ?_, fun i x y hx hy => ?_⟩
  · have := applied_yes hr2 (by rw [hb2]; exact hs)
    rw [this, hb2]
  · unfold checked'; rw [if_neg (by omega), show stands (tb.size : Int) 0 (undos s 0 es) = true from b1]; rfl
  · obtain ⟨q1, q2, q3⟩ := b5 i x y hx hy
    exact ⟨q1, q2, q3, good_of (Int.le_refl 0) hst x (List.mem_of_getElem? hx)⟩

theorem spanUndoes_walk (s : ByteArray) (a : Option Addr) (n cap : Nat) (es : List Ed) (w : World) (hs : s.size ≤ maxLen) (he : Edits w a n es) (hn : n ≤ 4398046511103) :
    Calls Try.prog 6 #[.string s, .slice a n cap] w fun e w' => e = .returned (.bool true) ∧ Below w.heap.size w w' := by
  have hn' : n ≤ maxLen := by unfold maxLen; omega
  have h1 := fun w he => apply_any s w a n cap es he hn' hs
  have h2 := fun w he => undo_ed s w a n cap es he hn h1
  by_cases hg : (applied s es).2 = 0
  · obtain ⟨hr, hT⟩ := applied_ok hg
    obtain ⟨hs2, hst⟩ := refused_ok hr
    obtain ⟨tb, htb, ht, hr2, hap2, hun, hpu, hck, hel⟩ := undo_all s es hr hT
    have hap := applied_yes hr hT
    have hUl : (undos s 0 es).length = n := by rw [undos_len]; exact he.1
    have hsb : (⟨s.data.toList.toArray⟩ : ByteArray) = s := by apply bytes_ext; simp
    have h3 := fun w A c (h : Edits w A n (undos s 0 es)) => apply_any tb w A n c (undos s 0 es) h hn' (by unfold maxLen; omega)
    rw [hap2] at h3
    dsimp only at h3
    rw [hsb] at h3
    rw [hap] at h1 h2
    dsimp only at h1 h2
    rw [← htb] at h1
    refine spanUndoes_yes s tb a n cap es (undos s 0 es) w he hn' hs2 ht hUl h1 (fun w he => (h2 w he).mono ?_) h3 (fun w A c h => ?_) (fun w A c h => ?_) hel
    · rintro e w' ⟨⟨A, c, L, e1, e2, e3⟩, hB⟩
      have e4 : L = undos s 0 es := e3
      subst e4
      rw [hUl] at e1 e2
      exact ⟨⟨A, c, e1, e2⟩, hB⟩
    · have := check_any tb.size w A n c (undos s 0 es) h hn'
      rw [hck] at this
      exact this
    · refine (undo_ed tb w A n c (undos s 0 es) h hn (fun w h => apply_any tb w A n c (undos s 0 es) h hn' (by unfold maxLen; omega))).mono ?_
      rintro e w' ⟨⟨B, d, L, e1, e2, e3⟩, hB⟩
      rw [hap2] at e1 e3
      have e4 : L = es := by rw [← hun]; exact e3
      subst e4
      rw [he.1] at e1 e2
      exact ⟨⟨B, d, e1, e2⟩, hB⟩
  · have hT := applied_no hg
    rw [hT] at h1
    refine spanUndoes_no s a n cap es (applied s es).2 w he hg h1 (fun w he => (h2 w he).mono ?_)
    rintro e w' ⟨⟨A, c, L, e1, _, e3⟩, hB⟩
    rw [if_neg hg] at e3
    subst e3
    exact ⟨⟨A, c, e1⟩, hB⟩
end Go.Proofs.Ytigmakdfladjnaa
