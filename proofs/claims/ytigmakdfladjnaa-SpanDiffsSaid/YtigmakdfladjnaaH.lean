/-
  Layer 3: contract of span.Move.
-/
import Derived.Test.YtigmakdfladjnaaG
namespace Go.Proofs.Ytigmakdfladjnaa
open Go.ChangeShapes Go.WideShapes Go.ChangeAt Go.RowKit

/-- what Move answers -/
def moved (N : Int) (es : List Ed) (at' : Int) : Int × Bool :=
  if checked' N es = 0 ∧ 0 ≤ at' ∧ at' ≤ N then (match movedTo at' at' es with | none => (0, false) | some t => (t, true)) else (0, false)
theorem movedTo_at (at' t : Int) (l : List Ed) (k : Nat) (x : Ed) (h : l[k]? = some x) :
    movedTo at' t (l.drop k) = if x.lo ≤ at' ∧ at' < x.hi then none else movedTo at' (if x.hi ≤ at' then wrap64 (t + gain x) else t) (l.drop (k + 1)) := by
  obtain ⟨hk, he⟩ := List.getElem?_eq_some_iff.mp h
  rw [List.drop_eq_getElem_cons hk, he]; rfl
set_option maxHeartbeats 4000000 in
theorem move_bad (N : Int) (at' : Int) (w : World) (a : Option Addr) (n cap : Nat) (es : List Ed) (he : Edits w a n es) (hn : n ≤ maxLen) (h : ¬ (checked' N es = 0 ∧ 0 ≤ at' ∧ at' ≤ N)) :
    Calls Try.prog 16 #[.int .i64 N, .slice a n cap, .int .i64 at'] w fun e w' => e = .returned (.tuple #[.int .i64 0, .bool false]) ∧ Below w.heap.size w w' := by
  have hc := check_any N w a n cap es he hn
  obtain ⟨c, hcc⟩ : ∃ c, c = checked' N es := ⟨_, rfl⟩
  rw [← hcc] at hc h
  clear hcc
  by_cases h1 : c = 0
  · subst h1
    by_cases h2 : at' < 0
    · go_enter Try.func16, Try.ntmps16
      go_wp2_with (first | (go_at_call 12; refine hc.mono ?_; rintro e w1 ⟨rfl, hB⟩))
      go_ret2
      exact ⟨rfl, hB⟩
    · have h3 : N < at' := by
        by_cases h4 : N < at'
        · exact h4
        · exact absurd ⟨rfl, by omega, by omega⟩ h
      have d1 : decide (at' < 0) = false := by rw [decide_eq_false_iff_not]; exact h2
      go_enter Try.func16, Try.ntmps16
      go_wp2_with (first | (go_at_call 12; refine hc.mono ?_; rintro e w1 ⟨rfl, hB⟩))
      go_ret2
      exact ⟨rfl, hB⟩
  · have d0 : decide (c = 0) = false := by rw [decide_eq_false_iff_not]; exact h1
    clear h
    go_enter Try.func16, Try.ntmps16
    go_wp2_with (first | (go_at_call 12; refine hc.mono ?_; rintro e w1 ⟨rfl, hB⟩))
    go_ret2
    exact ⟨rfl, hB⟩
set_option maxRecDepth 100000 in
set_option maxHeartbeats 4000000 in
theorem move_ok (N : Int) (at' : Int) (w : World) (a : Option Addr) (n cap : Nat) (es : List Ed) (he : Edits w a n es) (hn : n ≤ maxLen) (h0 : checked' N es = 0) (h1 : 0 ≤ at') (h2 : at' ≤ N) :
    Calls Try.prog 16 #[.int .i64 N, .slice a n cap, .int .i64 at'] w fun e w' => e = .returned (.tuple #[.int .i64 (moved N es at').1, .bool (moved N es at').2]) ∧ Below w.heap.size w w' := by
  have hc := fun w (he : Edits w a n es) => check_any N w a n cap es he hn
  rw [h0] at hc
  have HL := Lib.hid he.1
  have hmv : moved N es at' = (match movedTo at' at' es with | none => (0, false) | some t => (t, true)) := by unfold moved; rw [if_pos ⟨h0, h1, h2⟩]
  have HM := Lib.hid hmv
  unfold maxLen at hn
  have hA : Below w.heap.size w w := Below.refl _ _
  clear hmv h0
  have d1 : decide (at' < 0) = false := by rw [decide_eq_false_iff_not]; omega
  have d2 : decide (N < at') = false := by rw [decide_eq_false_iff_not]; omega
  go_enter Try.func16, Try.ntmps16
  go_wp2_with (first | (go_at_call 12; refine (hc _ he).mono ?_; rintro e w1 ⟨rfl, hB⟩; replace he := edits_below he hB; replace hA := below_chain hA hB; clear hB))
  go_loopw [8, 27] (fun t i wr => ∃ (k : Nat) (T : Int), k ≤ n ∧ i = .int .i64 k ∧ t = .int .i64 T ∧ Below w1.heap.size w1 wr ∧ Hid (movedTo at' at' es = movedTo at' T (es.drop k))) (fun _ i _ => n - (intOf i).toNat)
  case atStart => exact ⟨0, at', Nat.zero_le _, rfl, rfl, Below.refl _ _, Lib.hid (by simp)⟩
  case round =>
    obtain ⟨k, T, hk, rfl, rfl, hB, HT⟩ := hrel
    by_cases hlt : k < n
    · obtain ⟨⟨lo, hi, tx⟩, hxk⟩ : ∃ x, es[k]? = some x := ⟨es[k]'(by have := HL.out; omega), List.getElem?_eq_getElem (by have := HL.out; omega)⟩
      have her := edits_below he hB
      obtain ⟨g', off, rfl, c0, c1, c2⟩ := her.2 k _ hxk
      dsimp only at c0 c1 c2
      have HX := Lib.hid (movedTo_at at' T es k _ hxk)
      have hgr := fun w => grown_any ⟨lo, hi, tx⟩ w
      dsimp only at hgr
      have hs2 := hB.size
      clear hxk her
      by_cases h3 : lo ≤ at' ∧ at' < hi
      · obtain ⟨h3, h4⟩ := h3
        have HY := Lib.hid (show moved N es at' = (0, false) by rw [HM.out, HT.out, HX.out, if_pos ⟨h3, h4⟩])
        go_wp2
        go_ret2
        rw [HY.out]
        exact ⟨rfl, below_chain hA (hB.alloc hs2 _)⟩
      · by_cases h5 : hi ≤ at'
        · have HY := Lib.hid (show movedTo at' at' es = movedTo at' (wrap64 (T + gain ⟨lo, hi, tx⟩)) (es.drop (k + 1)) by rw [HT.out, HX.out, if_neg h3, if_pos h5])
          have d3 : decide (at' < hi) = false := by rw [decide_eq_false_iff_not]; omega
          clear h3
          by_cases h6 : lo ≤ at'
          · go_wp2_with (first | (go_at_call 30; refine (hgr _).mono ?_; rintro e w2 ⟨rfl, hB2⟩))
            go_roundw
            case rel => exact ⟨k + 1, _, by omega, by go_num, rfl, below_chain (hB.alloc hs2 _) hB2, HY⟩
            case measure => simp [intOf]; omega
          · have d4 : decide (lo ≤ at') = false := by rw [decide_eq_false_iff_not]; omega
            go_wp2_with (first | (go_at_call 30; refine (hgr _).mono ?_; rintro e w2 ⟨rfl, hB2⟩))
            go_roundw
            case rel => exact ⟨k + 1, _, by omega, by go_num, rfl, below_chain (hB.alloc hs2 _) hB2, HY⟩
            case measure => simp [intOf]; omega
        · have HY := Lib.hid (show movedTo at' at' es = movedTo at' T (es.drop (k + 1)) by rw [HT.out, HX.out, if_neg h3, if_neg h5])
          have h7 : at' < lo := by omega
          have d4 : decide (lo ≤ at') = false := by rw [decide_eq_false_iff_not]; omega
          have d5 : decide (hi ≤ at') = false := by rw [decide_eq_false_iff_not]; omega
          clear h3
          go_wp2
          go_roundw
          case rel => exact ⟨k + 1, _, by omega, by go_num, rfl, hB.alloc hs2 _, HY⟩
          case measure => simp [intOf]; omega
    · have hdr : es.drop k = [] := List.drop_of_length_le (by have := HL.out; omega)
      have HY := Lib.hid (show moved N es at' = (T, true) by rw [HM.out, HT.out, hdr]; rfl)
      clear hdr
      go_wp2
      go_ret2
      rw [HY.out]
      exact ⟨rfl, below_chain hA hB⟩
end Go.Proofs.Ytigmakdfladjnaa
