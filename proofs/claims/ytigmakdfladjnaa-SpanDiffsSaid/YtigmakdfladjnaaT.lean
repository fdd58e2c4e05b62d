/-
  Layer 3: contract of the document's Trim.
-/
import Derived.Test.YtigmakdfladjnaaS
namespace Go.Proofs.Ytigmakdfladjnaa
open Go.ChangeShapes Go.WideShapes Go.ChangeAt Go.RowKit

theorem less_order (s : ByteArray) (x : Ed) (hg : Good s x) : (less s x).lo ≤ (less s x).hi := (back_le s x hg).1
theorem keep_cases' (y : Ed) (h : y.lo ≤ y.hi) : ((y.lo == y.hi) = false ∧ keeps y = true) ∨ (y.lo = y.hi ∧ 0 < y.tx.size ∧ keeps y = true) ∨ (y.lo = y.hi ∧ decide (0 < y.tx.size) = false ∧ keeps y = false) := by
  unfold keeps
  by_cases h1 : y.lo < y.hi
  · exact .inl ⟨beq_eq_false_iff_ne.2 (by omega), by simp [h1]⟩
  · have h3 : y.lo = y.hi := by omega
    by_cases h2 : y.tx.size = 0
    · exact .inr (.inr ⟨h3, decide_eq_false (by omega), by simp [h1, h2]⟩)
    · exact .inr (.inl ⟨h3, by omega, by simp [h1]; omega⟩)

set_option maxHeartbeats 2000000 in
theorem rtrim_ok (s : ByteArray) (w : World) (a : Option Addr) (n cap : Nat) (es : List Ed) (he : Edits w a n es) (hn : n ≤ 4398046511103) (hs : s.size ≤ 65536) (hst : stands s.size 0 es = true) (htx : ∀ x ∈ es, x.tx.size ≤ maxLen) :
    Calls Try.prog 21 #[.string s, .slice a n cap] w fun e w' => (∃ v, e = .returned (.tuple #[v, .int .i64 0]) ∧ Mine w' w.heap.size v (trims s es)) ∧ Below w.heap.size w w' := by
  have hs' : s.size ≤ maxLen := by unfold maxLen; omega
  have hgood := good_of (Int.le_refl 0) hst
  have hlc := fun w (h : Edits w a n es) => stand_any s.size w a n cap es h (by unfold maxLen; omega)
  rw [hst] at hlc
  have HLC := Lib.hid hlc
  have HG := Lib.hid (And.intro hgood htx)
  have hlen := he.1
  clear hlc hgood hst htx
  obtain ⟨i0, hi, hz0, hz1, hz2⟩ := info_parts info36z
  go_enter Try.func21, Try.ntmps21
  go_wp2_with (first
    | (go_at_call 25; refine (HLC.out _ he).mono ?_; rintro e w1 ⟨rfl, hB⟩))
  go_loopw [6, 7] (fun v i wr => ∃ (k : Nat), k ≤ n ∧ i = .int .i64 k ∧ Mine wr w.heap.size v (trims s (es.take k)) ∧ Below w.heap.size w wr) (fun _ i _ => n - (intOf i).toNat)
  case atStart => exact ⟨0, Nat.zero_le _, rfl, mine_nil _ _, hB⟩
  case round =>
    clear hB
    obtain ⟨k, hk, rfl, hM, hB⟩ := hrel
    by_cases hlt : k < n
    · obtain ⟨x, hxk⟩ : ∃ x, es[k]? = some x := ⟨es[k]'(by omega), List.getElem?_eq_getElem (by omega)⟩
      have hmem := List.mem_of_getElem? hxk
      have hT := rtrimmed_any s x (HG.out.1 x hmem) hs' (HG.out.2 x hmem)
      have hord := less_order s x (HG.out.1 x hmem)
      have hst := trims_take s es k x hxk
      obtain ⟨g, off, rfl, c0, c1, c2⟩ := (edits_below he hB).2 k x hxk
      have hl1 : (trims s (es.take k)).length ≤ n := by
        unfold trims
        refine Nat.le_trans (List.length_filter_le _ _) ?_
        simp; omega
      generalize trims s (es.take k) = L at hM hst hl1
      generalize less s x = y at hT hst hord
      have HT := Lib.hid hT
      have HST := Lib.hid hst
      clear hT hst hmem hxk
      obtain ⟨lo, hi', tx⟩ := x
      dsimp only at c0 c1 c2 HT
      rcases keep_cases' y hord with ⟨d1, hke⟩ | ⟨d1, d2, hke⟩ | ⟨d1, d2, hke⟩
      case' inl => have hk2 : (if keeps y = true then [y] else []) = [y] := by rw [hke]; rfl
      case' inr.inl => have hk2 : (if keeps y = true then [y] else []) = [y] := by rw [hke]; rfl
      case' inr.inr => have hk2 : (if keeps y = true then [y] else []) = [] := by rw [hke]; rfl
      all_goals
        rw [hk2] at HST
        clear hke hk2 hord
      · obtain ⟨y0, y1, y2⟩ := y
        dsimp only at d1 HT d2
        subst d1
        go_wp2_with (first
          | (go_at_call 23; refine (HT.out _).mono ?_; rintro e w2 ⟨rfl, hB2⟩; replace hM := mine_below hM hB2; replace hB := below_chain hB hB2; clear hB2))
        rw [List.append_nil] at HST
        go_roundw
        case rel => exact ⟨k + 1, by omega, by go_num, by rw [HST.out]; exact hM.alloc _, hB.alloc hB.size _⟩
        case measure => simp [intOf]; omega
      · obtain ⟨y0, y1, y2⟩ := y
        dsimp only at d1 HT d2
        subst d1
        go_wp2_with (first
          | (go_at_call 23; refine (HT.out _).mono ?_; rintro e w2 ⟨rfl, hB2⟩; replace hM := mine_below hM hB2; replace hB := below_chain hB hB2; clear hB2)
          | (at_builtin; refine wpList_append_own _ rfl _ _ 22 rfl w.heap.size 36 i0 (.agg #[.int .i64 0, .int .i64 0, .string ⟨#[]⟩]) 3 32 Try.underlying22 hi hz0 hz1 hz2 rfl (by decide) _ _ _ rfl ((hM.alloc _).alloc _) ⟨w2.heap.size + 1, 0, none⟩ 1 1 [.int .i64 y0, .int .i64 y0, .string y2] rfl rfl ?c1 ?c2 ?c3 ?c4 ?c5 ?_))
        case c1 => simpa using three_new (w2.alloc (.cells #[.int .i64 y0, .int .i64 y0, .string y2] 36)) (.int .i64 y0) (.int .i64 y0) (.string y2) 36
        case c2 => intro u hu; simp at hu; rcases hu with rfl | rfl | rfl <;> rfl
        case c3 => unfold maxLen; omega
        case c4 => omega
        case c5 => have := hB.size; simp; omega
        · intro v3 w4 hown3 hg3 _
          have hM3 : Mine w4 w.heap.size v3 (L ++ [⟨y0, y0, y2⟩]) := by
            unfold Mine
            rw [cells3_app, List.length_append]
            exact hown3
          have hB5 : Below w.heap.size w w4 := ((hB.alloc hB.size _).alloc (by have := hB.size; simp; omega) _).grown hg3 (by have := hB.size; simp; omega) (fun q hq => by have := (hM.lt q hq).1; omega)
          clear hg3 hown3 hM hB
          go_wp2
          go_roundw
          case rel => exact ⟨k + 1, by omega, by go_num, by rw [HST.out]; exact hM3, hB5⟩
          case measure => simp [intOf]; omega
      · obtain ⟨y0, y1, y2⟩ := y
        dsimp only at d1 HT
        have d3 : ¬ y0 = y1 := beq_eq_false_iff_ne.1 d1
        have d4 : decide (y0 = y1) = false := decide_eq_false d3
        go_wp2_with (first
          | (go_at_call 23; refine (HT.out _).mono ?_; rintro e w2 ⟨rfl, hB2⟩; replace hM := mine_below hM hB2; replace hB := below_chain hB hB2; clear hB2)
          | (at_builtin; refine wpList_append_own _ rfl _ _ 22 rfl w.heap.size 36 i0 (.agg #[.int .i64 0, .int .i64 0, .string ⟨#[]⟩]) 3 32 Try.underlying22 hi hz0 hz1 hz2 rfl (by decide) _ _ _ rfl ((hM.alloc _).alloc _) ⟨w2.heap.size + 1, 0, none⟩ 1 1 [.int .i64 y0, .int .i64 y1, .string y2] rfl rfl ?c1 ?c2 ?c3 ?c4 ?c5 ?_))
        case c1 => simpa using three_new (w2.alloc (.cells #[.int .i64 y0, .int .i64 y1, .string y2] 36)) (.int .i64 y0) (.int .i64 y1) (.string y2) 36
        case c2 => intro u hu; simp at hu; rcases hu with rfl | rfl | rfl <;> rfl
        case c3 => unfold maxLen; omega
        case c4 => omega
        case c5 => have := hB.size; simp; omega
        · intro v3 w4 hown3 hg3 _
          have hM3 : Mine w4 w.heap.size v3 (L ++ [⟨y0, y1, y2⟩]) := by
            unfold Mine
            rw [cells3_app, List.length_append]
            exact hown3
          have hB5 : Below w.heap.size w w4 := ((hB.alloc hB.size _).alloc (by have := hB.size; simp; omega) _).grown hg3 (by have := hB.size; simp; omega) (fun q hq => by have := (hM.lt q hq).1; omega)
          clear hg3 hown3 hM hB
          go_wp2
          go_roundw
          case rel => exact ⟨k + 1, by omega, by go_num, by rw [HST.out]; exact hM3, hB5⟩
          case measure => simp [intOf]; omega
    · obtain rfl : k = n := by omega
      rw [List.take_of_length_le (by omega)] at hM
      go_wp2
      go_ret2
      exact ⟨⟨_, rfl, hM⟩, hB⟩

theorem rtrim_any (s : ByteArray) (hs : s.size ≤ maxLen) (w : World) (a : Option Addr) (n cap : Nat) (es : List Ed) (he : Edits w a n es) (hn : n ≤ 4398046511103) (htx : ∀ x ∈ es, x.tx.size ≤ maxLen) :
    Calls Try.prog 21 #[.string s, .slice a n cap] w fun e w' => TrimLeaves w.heap.size s es e w' ∧ Below w.heap.size w w' := by
  unfold TrimLeaves
  unfold maxLen at hs
  by_cases h1 : 65536 < s.size
  · have hr : refused s es = 2 := by unfold refused; rw [if_pos h1]
    have hl : (if (2 : Int) = 0 then trims s es else []) = [] := rfl
    rw [hr, hl]
    clear hr hl
    go_enter Try.func21, Try.ntmps21
    go_wp2
    go_ret2
    exact ⟨⟨_, _, rfl, mine_nil _ _, rfl⟩, Below.refl _ _⟩
  · cases hs2 : stands s.size 0 es with
    | false =>
      have hst := fun w (he : Edits w a n es) => stand_any s.size w a n cap es he (by unfold maxLen; omega)
      have hr : refused s es = 13 := by unfold refused checked'; rw [if_neg h1, if_neg (by omega), hs2]; rfl
      rw [hs2] at hst
      have HS := Lib.hid hst
      have hl : (if (13 : Int) = 0 then trims s es else []) = [] := rfl
      rw [hr, hl]
      clear hr hs2 hst htx hl
      go_enter Try.func21, Try.ntmps21
      go_wp2_with (first | (go_at_call 25; refine (HS.out _ he).mono ?_; rintro e w1 ⟨rfl, hB⟩))
      go_ret2
      exact ⟨⟨_, _, rfl, mine_nil _ _, rfl⟩, hB⟩
    | true =>
      have hr : refused s es = 0 := by unfold refused checked'; rw [if_neg h1, if_neg (by omega), hs2]; rfl
      rw [hr]
      refine (rtrim_ok s w a n cap es he hn (by omega) hs2 htx).mono ?_
      rintro e w' ⟨⟨v, he, hm⟩, hB⟩
      exact ⟨⟨v, _, he, hm, rfl⟩, hB⟩
end Go.Proofs.Ytigmakdfladjnaa
