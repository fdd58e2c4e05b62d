/-
  Layer 3: contract of span.Trim.
-/
import Derived.Test.YtigmakdfladjnaaR
namespace Go.Proofs.Ytigmakdfladjnaa
open Go.ChangeShapes Go.WideShapes Go.ChangeAt Go.RowKit

/-- what Trim leaves -/
def TrimLeaves (base : Nat) (s : ByteArray) (es : List Ed) (e : Ending) (w' : World) : Prop :=
  ∃ v L, e = .returned (.tuple #[v, .int .i64 (refused s es)]) ∧ Mine w' base v L ∧ L = (if refused s es = 0 then trims s es else [])

theorem info36z : (Try.prog.info? 36).map (fun i => (i.zero, i.size, i.bytes)) = some (some (.agg #[.int .i64 0, .int .i64 0, .string ⟨#[]⟩]), 3, 32) := by kernel_rfl
theorem trims_take (s : ByteArray) (es : List Ed) (k : Nat) (x : Ed) (h : es[k]? = some x) : trims s (es.take (k + 1)) = trims s (es.take k) ++ (if keeps (less s x) then [less s x] else []) := by
  obtain ⟨h1, h2⟩ := List.getElem?_eq_some_iff.1 h
  rw [trims, List.take_succ_eq_append_getElem h1, h2, List.map_append, List.filter_append, ← trims]
  simp [List.filter_cons]

theorem keep_cases (y : Ed) : (decide (y.lo < y.hi) = true ∧ keeps y = true) ∨ (decide (y.lo < y.hi) = false ∧ y.tx.toList.isEmpty = false ∧ keeps y = true) ∨ (decide (y.lo < y.hi) = false ∧ y.tx.toList.isEmpty = true ∧ keeps y = false) := by
  unfold keeps
  by_cases h1 : y.lo < y.hi
  · exact .inl ⟨decide_eq_true h1, by simp [h1]⟩
  · by_cases h2 : y.tx.size = 0
    · exact .inr (.inr ⟨decide_eq_false h1, empty_yes _ h2, by simp [h1, h2]⟩)
    · exact .inr (.inl ⟨decide_eq_false h1, empty_no _ (by omega), by simp [h1]; omega⟩)
theorem three_new (w : World) (x y z : Value) (t : TypeId) : ∀ j u, [x, y, z][j]? = some u → (w.alloc (.cells #[x, y, z] t)).cell? ((⟨w.heap.size, 0, none⟩ : Addr).add j) = some u := by
  intro j u hj
  match j, hj with
  | 0, hj => simp at hj; subst hj; simp [Addr.add]
  | 1, hj => simp at hj; subst hj; simp [Addr.add]
  | 2, hj => simp at hj; subst hj; simp [Addr.add]
  | j + 3, hj => simp at hj

set_option maxHeartbeats 2000000 in
theorem trim_ok (s : ByteArray) (w : World) (a : Option Addr) (n cap : Nat) (es : List Ed) (he : Edits w a n es) (hn : n ≤ 4398046511103) (hr : refused s es = 0) (htx : ∀ x ∈ es, x.tx.size ≤ maxLen) :
    Calls Try.prog 20 #[.string s, .slice a n cap] w fun e w' => TrimLeaves w.heap.size s es e w' ∧ Below w.heap.size w w' := by
  obtain ⟨hs, hst⟩ := refused_ok hr
  have hs' : s.size ≤ maxLen := by unfold maxLen; omega
  have hgood := good_of (Int.le_refl 0) hst
  have hlc := fun w (h : Edits w a n es) => lcheck_any s w a n cap es h (by unfold maxLen; omega) hs'
  rw [hr] at hlc
  have HLC := Lib.hid hlc
  have HG := Lib.hid (And.intro hgood htx)
  have HR := Lib.hid hr
  have hlen := he.1
  clear hlc hgood hst hr
  have HTX := Lib.hid htx
  clear htx
  obtain ⟨i0, hi, hz0, hz1, hz2⟩ := info_parts info36z
  go_enter Try.func20, Try.ntmps20
  go_wp2_with (first
    | (go_at_call 26; refine (HLC.out _ he).mono ?_; rintro e w1 ⟨rfl, hB⟩))
  go_loopw [7, 18] (fun v i wr => ∃ (k : Nat), k ≤ n ∧ i = .int .i64 k ∧ Mine wr w.heap.size v (trims s (es.take k)) ∧ Below w.heap.size w wr) (fun _ i _ => n - (intOf i).toNat)
  case atStart => exact ⟨0, Nat.zero_le _, rfl, mine_nil _ _, hB⟩
  case round =>
    clear hB
    obtain ⟨k, hk, rfl, hM, hB⟩ := hrel
    by_cases hlt : k < n
    · obtain ⟨x, hxk⟩ : ∃ x, es[k]? = some x := ⟨es[k]'(by omega), List.getElem?_eq_getElem (by omega)⟩
      have hmem := List.mem_of_getElem? hxk
      have hT := trimmed_any s x (HG.out.1 x hmem) hs' (HG.out.2 x hmem)
      have hst := trims_take s es k x hxk
      have hsn := fun y : Ed => keeps y
      obtain ⟨g, off, rfl, c0, c1, c2⟩ := (edits_below he hB).2 k x hxk
      have hl1 : (trims s (es.take k)).length ≤ n := by
        unfold trims
        refine Nat.le_trans (List.length_filter_le _ _) ?_
        simp; omega
      generalize trims s (es.take k) = L at hM hst hl1
      generalize less s x = y at hT hst
      have HT := Lib.hid hT
      have HST := Lib.hid hst
      clear hT hst hmem hsn hxk
      obtain ⟨lo, hi', tx⟩ := x
      dsimp only at c0 c1 c2 HT
      rcases keep_cases y with ⟨d1, hke⟩ | ⟨d1, d2, hke⟩ | ⟨d1, d2, hke⟩
      case' inl => have hk2 : (if keeps y = true then [y] else []) = [y] := by rw [hke]; rfl
      case' inr.inl => have hk2 : (if keeps y = true then [y] else []) = [y] := by rw [hke]; rfl
      case' inr.inr => have hk2 : (if keeps y = true then [y] else []) = [] := by rw [hke]; rfl
      all_goals
        rw [hk2] at HST
        clear hke hk2
      · go_wp2_with (first
          | (go_at_call 31; refine (HT.out _).mono ?_; rintro e w2 ⟨rfl, hB2⟩; obtain ⟨hX, hB3⟩ := box_after hB2; clear hB2)
          | (refine wpList_store_rowTo rfl 36 (.tmp 9) (.tmp 24) rfl rfl wr.heap.size #[.int .i64 y.lo, .int .i64 y.hi, .string y.tx] rfl rfl 36 #[.int .i64 lo, .int .i64 hi', .string tx] hX info36 rfl (by simp [Value.oneCell']) ?_; have hX2 : Box _ wr.heap.size y.lo y.hi y.tx := setRow_heap _ _ _ _ _ _ hX; have hB4 := below_setRow hB3 (Nat.le_refl _) #[.int .i64 y.lo, .int .i64 y.hi, .string y.tx]; generalize w2.setRow wr.heap.size #[.int .i64 y.lo, .int .i64 y.hi, .string y.tx] = w3 at hX2 hB4 ⊢; clear hX hB3; replace hM := mine_below hM hB4; replace hB := below_chain hB hB4; clear hB4; obtain ⟨e0, e1, e2, _, _, _⟩ := box_cells hX2; clear hX2))
        rw [List.append_nil] at HST
        go_roundw
        case rel => exact ⟨k + 1, by omega, by go_num, by rw [HST.out]; exact hM, hB⟩
        case measure => simp [intOf]; omega
      · go_wp2_with (first
          | (go_at_call 31; refine (HT.out _).mono ?_; rintro e w2 ⟨rfl, hB2⟩; obtain ⟨hX, hB3⟩ := box_after hB2; clear hB2)
          | (refine wpList_store_rowTo rfl 36 (.tmp 9) (.tmp 24) rfl rfl wr.heap.size #[.int .i64 y.lo, .int .i64 y.hi, .string y.tx] rfl rfl 36 #[.int .i64 lo, .int .i64 hi', .string tx] hX info36 rfl (by simp [Value.oneCell']) ?_; have hX2 : Box _ wr.heap.size y.lo y.hi y.tx := setRow_heap _ _ _ _ _ _ hX; have hB4 := below_setRow hB3 (Nat.le_refl _) #[.int .i64 y.lo, .int .i64 y.hi, .string y.tx]; generalize w2.setRow wr.heap.size #[.int .i64 y.lo, .int .i64 y.hi, .string y.tx] = w3 at hX2 hB4 ⊢; clear hX hB3; replace hM := mine_below hM hB4; replace hB := below_chain hB hB4; clear hB4; obtain ⟨e0, e1, e2, _, _, _⟩ := box_cells hX2; clear hX2)
          | (at_builtin; refine wpList_append_own _ rfl _ _ 22 rfl w.heap.size 36 i0 (.agg #[.int .i64 0, .int .i64 0, .string ⟨#[]⟩]) 3 32 Try.underlying22 hi hz0 hz1 hz2 rfl (by decide) _ _ _ rfl (hM.alloc _) ⟨w3.heap.size, 0, none⟩ 1 1 [.int .i64 y.lo, .int .i64 y.hi, .string y.tx] rfl rfl ?c1 ?c2 ?c3 ?c4 ?c5 ?_))
        case c1 => exact three_new _ _ _ _ _
        case c2 => intro u hu; simp at hu; rcases hu with rfl | rfl | rfl <;> rfl
        case c3 => unfold maxLen; omega
        case c4 => omega
        case c5 => have := hB.size; simp; omega
        · intro v3 w4 hown3 hg3 _
          have hM3 : Mine w4 w.heap.size v3 (L ++ [y]) := by
            unfold Mine
            rw [cells3_app, List.length_append]
            exact hown3
          have hB5 : Below w.heap.size w w4 := (hB.alloc hB.size _).grown hg3 (by have := hB.size; simp; omega) (fun q hq => by have := (hM.lt q hq).1; omega)
          clear hg3 hown3 hM hB
          go_wp2
          go_roundw
          case rel => exact ⟨k + 1, by omega, by go_num, by rw [HST.out]; exact hM3, hB5⟩
          case measure => simp [intOf]; omega
      · go_wp2_with (first
          | (go_at_call 31; refine (HT.out _).mono ?_; rintro e w2 ⟨rfl, hB2⟩; obtain ⟨hX, hB3⟩ := box_after hB2; clear hB2)
          | (refine wpList_store_rowTo rfl 36 (.tmp 9) (.tmp 24) rfl rfl wr.heap.size #[.int .i64 y.lo, .int .i64 y.hi, .string y.tx] rfl rfl 36 #[.int .i64 lo, .int .i64 hi', .string tx] hX info36 rfl (by simp [Value.oneCell']) ?_; have hX2 : Box _ wr.heap.size y.lo y.hi y.tx := setRow_heap _ _ _ _ _ _ hX; have hB4 := below_setRow hB3 (Nat.le_refl _) #[.int .i64 y.lo, .int .i64 y.hi, .string y.tx]; generalize w2.setRow wr.heap.size #[.int .i64 y.lo, .int .i64 y.hi, .string y.tx] = w3 at hX2 hB4 ⊢; clear hX hB3; replace hM := mine_below hM hB4; replace hB := below_chain hB hB4; clear hB4; obtain ⟨e0, e1, e2, _, _, _⟩ := box_cells hX2; clear hX2)
          | (at_builtin; refine wpList_append_own _ rfl _ _ 22 rfl w.heap.size 36 i0 (.agg #[.int .i64 0, .int .i64 0, .string ⟨#[]⟩]) 3 32 Try.underlying22 hi hz0 hz1 hz2 rfl (by decide) _ _ _ rfl (hM.alloc _) ⟨w3.heap.size, 0, none⟩ 1 1 [.int .i64 y.lo, .int .i64 y.hi, .string y.tx] rfl rfl ?c1 ?c2 ?c3 ?c4 ?c5 ?_))
        case c1 => exact three_new _ _ _ _ _
        case c2 => intro u hu; simp at hu; rcases hu with rfl | rfl | rfl <;> rfl
        case c3 => unfold maxLen; omega
        case c4 => omega
        case c5 => have := hB.size; simp; omega
        · intro v3 w4 hown3 hg3 _
          have hM3 : Mine w4 w.heap.size v3 (L ++ [y]) := by
            unfold Mine
            rw [cells3_app, List.length_append]
            exact hown3
          have hB5 : Below w.heap.size w w4 := (hB.alloc hB.size _).grown hg3 (by have := hB.size; simp; omega) (fun q hq => by have := (hM.lt q hq).1; omega)
          clear hg3 hown3 hM hB
          go_wp2
          go_roundw
          case rel => exact ⟨k + 1, by omega, by go_num, by rw [HST.out]; exact hM3, hB5⟩
          case measure => simp [intOf]; omega
    · obtain rfl : k = n := by omega
      rw [List.take_of_length_le (by omega)] at hM
      go_wp2
      go_ret2
      refine ⟨⟨_, _, ?_, hM, by rw [if_pos HR.out]⟩, hB⟩
      rw [HR.out]; rfl

theorem trim_any (s : ByteArray) (hs : s.size ≤ maxLen) (w : World) (a : Option Addr) (n cap : Nat) (es : List Ed) (he : Edits w a n es) (hn : n ≤ 4398046511103) (htx : ∀ x ∈ es, x.tx.size ≤ maxLen) :
    Calls Try.prog 20 #[.string s, .slice a n cap] w fun e w' => TrimLeaves w.heap.size s es e w' ∧ Below w.heap.size w w' := by
  by_cases hr : refused s es = 0
  · exact trim_ok s w a n cap es he hn hr htx
  · have hlc := fun w (h : Edits w a n es) => lcheck_any s w a n cap es h (by unfold maxLen; omega) hs
    have hl : (if refused s es = 0 then trims s es else []) = [] := if_neg hr
    unfold TrimLeaves
    rw [hl]
    clear hl
    generalize refused s es = r at hr hlc
    have HLC := Lib.hid hlc
    clear hlc htx
    have hrb : (r == 0) = false := beq_eq_false_iff_ne.2 hr
    go_enter Try.func20, Try.ntmps20
    go_wp2_with (first
      | (go_at_call 26; refine (HLC.out _ he).mono ?_; rintro e w1 ⟨rfl, hB⟩))
    go_ret2
    exact ⟨⟨_, _, rfl, mine_nil _ _, rfl⟩, hB⟩
end Go.Proofs.Ytigmakdfladjnaa
