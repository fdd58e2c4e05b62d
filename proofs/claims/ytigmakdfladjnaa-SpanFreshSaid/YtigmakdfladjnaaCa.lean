/-
  Layer 3: the law SpanTrims.
-/
import Derived.Test.YtigmakdfladjnaaBa
namespace Go.Proofs.Ytigmakdfladjnaa
open Go.ChangeShapes Go.WideShapes Go.ChangeAt Go.RowKit

/-- what Trim answers -/
def trimmedList (s : ByteArray) (es : List Ed) : List Ed := if refused s es = 0 then trims s es else []
theorem trimmed_len (s : ByteArray) (es : List Ed) : (trimmedList s es).length ≤ es.length := by
  unfold trimmedList
  split
  · unfold trims
    refine Nat.le_trans (List.length_filter_le _ _) ?_
    simp
  · simp
theorem trim_ed (s : ByteArray) (hs : s.size ≤ maxLen) (w : World) (a : Option Addr) (n cap : Nat) (es : List Ed) (he : Edits w a n es) (hn : n ≤ 4398046511103) (htx : ∀ x ∈ es, x.tx.size ≤ maxLen) :
    Calls Try.prog 20 #[.string s, .slice a n cap] w fun e w' => (∃ A c, e = .returned (.tuple #[.slice A (trimmedList s es).length c, .int .i64 (refused s es)]) ∧ Edits w' A (trimmedList s es).length (trimmedList s es)) ∧ Below w.heap.size w w' := by
  refine (trim_any s hs w a n cap es he hn htx).mono ?_
  rintro e w' ⟨⟨v, L, e1, e2, e3⟩, hB⟩
  obtain ⟨A, c, rfl, h1, _⟩ := mine_edits e2
  have : L = trimmedList s es := e3
  subst this
  exact ⟨⟨A, c, e1, h1⟩, hB⟩
theorem rtrim_ed (s : ByteArray) (hs : s.size ≤ maxLen) (w : World) (a : Option Addr) (n cap : Nat) (es : List Ed) (he : Edits w a n es) (hn : n ≤ 4398046511103) (htx : ∀ x ∈ es, x.tx.size ≤ maxLen) :
    Calls Try.prog 21 #[.string s, .slice a n cap] w fun e w' => (∃ A c, e = .returned (.tuple #[.slice A (trimmedList s es).length c, .int .i64 (refused s es)]) ∧ Edits w' A (trimmedList s es).length (trimmedList s es)) ∧ Below w.heap.size w w' := by
  refine (rtrim_any s hs w a n cap es he hn htx).mono ?_
  rintro e w' ⟨⟨v, L, e1, e2, e3⟩, hB⟩
  obtain ⟨A, c, rfl, h1, _⟩ := mine_edits e2
  have : L = trimmedList s es := e3
  subst this
  exact ⟨⟨A, c, e1, h1⟩, hB⟩
theorem less_tx (s : ByteArray) (x : Ed) : (less s x).tx.size ≤ x.tx.size := by
  simp only [less]; rw [ByteArray.size_extract]; omega
theorem trimmed_tx (s : ByteArray) (es : List Ed) (m : Nat) (h : ∀ x ∈ es, x.tx.size ≤ m) : ∀ x ∈ trimmedList s es, x.tx.size ≤ m := by
  intro x hx
  unfold trimmedList at hx
  split at hx
  · unfold trims at hx
    obtain ⟨hx, _⟩ := List.mem_filter.1 hx
    obtain ⟨y, hy, rfl⟩ := List.mem_map.1 hx
    exact Nat.le_trans (less_tx s y) (h y hy)
  · cases hx

set_option maxHeartbeats 2000000 in
/-- where it is refused, or grows too long -/
theorem spanTrims_no (s : ByteArray) (a : Option Addr) (n cap : Nat) (es L : List Ed) (m : Nat) (r g : Int) (T : ByteArray) (w : World) (he : Edits w a n es) (hm : m ≤ maxLen) (hrg : r ≠ 0 ∨ r = 0 ∧ g ≠ 0)
    (h1 : ∀ w, Edits w a n es → Calls Try.prog 20 #[.string s, .slice a n cap] w fun e w' => (∃ A c, e = .returned (.tuple #[.slice A m c, .int .i64 r]) ∧ Edits w' A m L) ∧ Below w.heap.size w w')
    (h2 : ∀ w, Edits w a n es → Calls Try.prog 21 #[.string s, .slice a n cap] w fun e w' => (∃ A c, e = .returned (.tuple #[.slice A m c, .int .i64 r]) ∧ Edits w' A m L) ∧ Below w.heap.size w w')
    (h3 : ∀ w, Edits w a n es → Calls Try.prog 14 #[.string s, .slice a n cap] w fun e w' => e = .returned (.tuple #[.string T, .int .i64 g]) ∧ Below w.heap.size w w') :
    Calls Try.prog 8 #[.string s, .slice a n cap] w fun e w' => e = .returned (.bool true) ∧ Below w.heap.size w w' := by
  have hA : Below w.heap.size w w := Below.refl _ _
  have H1 := Lib.hid h1
  have H2 := Lib.hid h2
  have H3 := Lib.hid h3
  have hsame := fun w A B ca cb (he : Edits w A m L) (hf : Edits w B m L) => same_any w A B m m ca cb L L he hf hm
  rw [same_self] at hsame
  have HS := Lib.hid hsame
  clear h1 h2 h3 hsame
  rcases hrg with hr | ⟨rfl, hg⟩
  case' inl => have hq : (r == 0) = false := beq_eq_false_iff_ne.2 hr
  case' inr => have hq : (g == 0) = false := beq_eq_false_iff_ne.2 hg
  all_goals
    go_enter Try.func8, Try.ntmps8
    go_wp2_with (first
      | (go_at_call 20; refine (H1.out _ he).mono ?_; rintro e w1 ⟨⟨A, ca, rfl, hx⟩, hB⟩; replace he := edits_below he hB; replace hA := below_chain hA hB; clear hB)
      | (go_at_call 21; refine (H2.out _ he).mono ?_; rintro e w2 ⟨⟨B, cb, rfl, hy⟩, hB⟩; replace he := edits_below he hB; replace hx := edits_below hx hB; replace hA := below_chain hA hB; clear hB)
      | (go_at_call 11; refine (fixed_any _).mono ?_; rintro e w3 ⟨rfl, hB⟩; replace he := edits_below he hB; replace hx := edits_below hx hB; replace hy := edits_below hy hB; replace hA := below_chain hA hB; clear hB)
      | (go_at_call 19; refine (HS.out _ _ _ _ _ hx hy).mono ?_; rintro e w4 ⟨rfl, hB⟩; replace he := edits_below he hB; replace hA := below_chain hA hB; clear hB)
      | (go_at_call 14; refine (H3.out _ he).mono ?_; rintro e w5 ⟨rfl, hB⟩; replace hA := below_chain hA hB; clear hB))
    go_ret
    exact ⟨rfl, hA⟩

set_option maxHeartbeats 2000000 in
/-- where it is edited -/
theorem spanTrims_yes (s : ByteArray) (a : Option Addr) (n cap : Nat) (es L : List Ed) (m : Nat) (T : ByteArray) (w : World) (he : Edits w a n es) (hm : m ≤ maxLen)
    (h1 : ∀ w, Edits w a n es → Calls Try.prog 20 #[.string s, .slice a n cap] w fun e w' => (∃ A c, e = .returned (.tuple #[.slice A m c, .int .i64 0]) ∧ Edits w' A m L) ∧ Below w.heap.size w w')
    (h2 : ∀ w, Edits w a n es → Calls Try.prog 21 #[.string s, .slice a n cap] w fun e w' => (∃ A c, e = .returned (.tuple #[.slice A m c, .int .i64 0]) ∧ Edits w' A m L) ∧ Below w.heap.size w w')
    (h3 : ∀ w, Edits w a n es → Calls Try.prog 14 #[.string s, .slice a n cap] w fun e w' => e = .returned (.tuple #[.string T, .int .i64 0]) ∧ Below w.heap.size w w')
    (h4 : ∀ w A c, Edits w A m L → Calls Try.prog 14 #[.string s, .slice A m c] w fun e w' => e = .returned (.tuple #[.string T, .int .i64 0]) ∧ Below w.heap.size w w')
    (h5 : ∀ w A c, Edits w A m L → Calls Try.prog 20 #[.string s, .slice A m c] w fun e w' => (∃ B d, e = .returned (.tuple #[.slice B m d, .int .i64 0]) ∧ Edits w' B m L) ∧ Below w.heap.size w w') :
    Calls Try.prog 8 #[.string s, .slice a n cap] w fun e w' => e = .returned (.bool true) ∧ Below w.heap.size w w' := by
  have hA : Below w.heap.size w w := Below.refl _ _
  have H1 := Lib.hid h1
  have H2 := Lib.hid h2
  have H3 := Lib.hid h3
  have H4 := Lib.hid h4
  have H5 := Lib.hid h5
  have hsame := fun w A B ca cb (he : Edits w A m L) (hf : Edits w B m L) => same_any w A B m m ca cb L L he hf hm
  rw [same_self] at hsame
  have HS := Lib.hid hsame
  clear h1 h2 h3 h4 h5 hsame
  have TOK1 : True := trivial
  have TOK2 : True ∧ True := ⟨trivial, trivial⟩
  have TOK3 : True ∧ True ∧ True := ⟨trivial, trivial, trivial⟩
  go_enter Try.func8, Try.ntmps8
  go_wp2_with (first
    | (go_at_call 20; clear TOK1; refine (H1.out _ he).mono ?_; rintro e w1 ⟨⟨A, ca, rfl, hx⟩, hB⟩; replace he := edits_below he hB; replace hA := below_chain hA hB; clear hB)
    | (go_at_call 21; refine (H2.out _ he).mono ?_; rintro e w2 ⟨⟨B, cb, rfl, hy⟩, hB⟩; replace he := edits_below he hB; replace hx := edits_below hx hB; replace hA := below_chain hA hB; clear hB)
    | (go_at_call 11; refine (fixed_any _).mono ?_; rintro e w3 ⟨rfl, hB⟩; replace he := edits_below he hB; replace hx := edits_below hx hB; replace hy := edits_below hy hB; replace hA := below_chain hA hB; clear hB)
    | (go_at_call 19; clear TOK2; refine (HS.out _ _ _ _ _ hx hy).mono ?_; rintro e w4 ⟨rfl, hB⟩; replace he := edits_below he hB; replace hx := edits_below hx hB; replace hA := below_chain hA hB; clear hB)
    | (go_at_call 14; clear TOK3; refine (H3.out _ he).mono ?_; rintro e w5 ⟨rfl, hB⟩; replace hx := edits_below hx hB; replace hA := below_chain hA hB; clear hB)
    | (go_at_call 14; refine (H4.out _ _ _ hx).mono ?_; rintro e w6 ⟨rfl, hB⟩; replace hx := edits_below hx hB; replace hA := below_chain hA hB; clear hB)
    | (go_at_call 20; refine (H5.out _ _ _ hx).mono ?_; rintro e w7 ⟨⟨C, cc, rfl, hz⟩, hB⟩; replace hx := edits_below hx hB; replace hA := below_chain hA hB; clear hB)
    | (go_at_call 19; refine (HS.out _ _ _ _ _ hx hz).mono ?_; rintro e w8 ⟨rfl, hB⟩; replace hA := below_chain hA hB; clear hB))
  go_ret
  exact ⟨by simp, hA⟩

theorem spanTrims_walk (s : ByteArray) (a : Option Addr) (n cap : Nat) (es : List Ed) (w : World) (hs : s.size ≤ maxLen) (he : Edits w a n es) (hn : n ≤ 4398046511103) (htx : ∀ x ∈ es, x.tx.size ≤ maxLen) :
    Calls Try.prog 8 #[.string s, .slice a n cap] w fun e w' => e = .returned (.bool true) ∧ Below w.heap.size w w' := by
  have hn' : n ≤ maxLen := by unfold maxLen; omega
  have hlen := trimmed_len s es
  rw [he.1] at hlen
  have h1 := fun w he => trim_ed s hs w a n cap es he hn htx
  have h2 := fun w he => rtrim_ed s hs w a n cap es he hn htx
  have h3 := fun w he => apply_any s w a n cap es he hn' hs
  by_cases hrg : refused s es = 0 ∧ (applied s es).2 = 0
  · obtain ⟨hr, hg⟩ := hrg
    obtain ⟨hs2, hst⟩ := refused_ok hr
    have hgood := good_of (Int.le_refl 0) hst
    have hL : trimmedList s es = trims s es := if_pos hr
    have hst2 := stands_trims s es 0 (Int.le_refl 0) hst
    have hr2 : refused s (trims s es) = 0 := by unfold refused checked'; rw [if_neg (by omega), if_neg (by omega), hst2]; rfl
    have hap : applied s (trims s es) = applied s es := by
      unfold applied
      rw [if_pos hr, if_pos hr2, textOf_trims s es 0 0 (Int.le_refl 0) hst]
    have hL2 : trimmedList s (trims s es) = trims s es := by unfold trimmedList; rw [if_pos hr2]; exact trims_trims s es hgood
    have htx2 := trimmed_tx s es maxLen htx
    rw [hL] at htx2 hlen h1 h2
    have hpp := puts_trims s es hgood
    rw [hr] at h1 h2
    rw [hg] at h3
    refine spanTrims_yes s a n cap es (trims s es) _ _ w he (by unfold maxLen; omega) h1 h2 h3 (fun w A c h => ?_) (fun w A c h => ?_)
    · have := apply_any s w A _ c (trims s es) h (by unfold maxLen; omega) hs
      rw [hap, hg] at this
      exact this
    · have := trim_ed s hs w A _ c (trims s es) h (by omega) htx2
      rw [hL2, hr2] at this
      exact this
  · refine spanTrims_no s a n cap es _ _ _ _ _ w he (by unfold maxLen; omega) ?_ h1 h2 h3
    by_cases hr : refused s es = 0
    · exact .inr ⟨hr, fun h => hrg ⟨hr, h⟩⟩
    · exact .inl hr
end Go.Proofs.Ytigmakdfladjnaa
