/-
  Layer 3: contracts of span.Check, check, grown and of the document's Stand and Check.
-/
import Derived.Test.YtigmakdfladjnaaA
namespace Go.Proofs.Ytigmakdfladjnaa
open Go.ChangeShapes Go.WideShapes Go.ChangeAt Go.RowKit

/-- what Check answers -/
def checked' (n : Int) (es : List Ed) : Int := if n < 0 ∨ 65536 < n then 1 else if stands n 0 es = true then 0 else 13
theorem check_any (N : Int) (w : World) (a : Option Addr) (n cap : Nat) (es : List Ed) (he : Edits w a n es) (hn : n ≤ maxLen) :
    Calls Try.prog 12 #[.int .i64 N, .slice a n cap] w fun e w' => e = .returned (.int .i64 (checked' N es)) ∧ Below w.heap.size w w' := by
  by_cases h1 : N < 0 ∨ 65536 < N
  · have hc : checked' N es = 1 := by unfold checked'; rw [if_pos h1]
    rw [hc]
    clear hc
    rcases h1 with h1 | h1
    · go_enter Try.func12, Try.ntmps12
      go_wp2
      go_ret
      exact ⟨rfl, Below.refl _ _⟩
    · go_enter Try.func12, Try.ntmps12
      go_wp2
      all_goals
        go_ret
        exact ⟨rfl, Below.refl _ _⟩
  · have h2 : 0 ≤ N := by omega
    have h3 : N ≤ 65536 := by omega
    have hm := fun w (he : Edits w a n es) => mayStand_any N w a n cap es he hn
    cases hs : stands N 0 es with
    | true =>
      have hc : checked' N es = 0 := by unfold checked'; rw [if_neg h1, hs]; rfl
      rw [hc]
      have HS := Lib.hid hs
      clear hc h1 hs
      go_enter Try.func12, Try.ntmps12
      go_wp2_with (first | (go_at_call 24; refine (hm _ he).mono ?_; rintro e w' ⟨rfl, hB⟩; rw [HS.out]))
      go_ret
      exact ⟨rfl, hB⟩
    | false =>
      have hc : checked' N es = 13 := by unfold checked'; rw [if_neg h1, hs]; rfl
      rw [hc]
      have HS := Lib.hid hs
      clear hc h1 hs
      go_enter Try.func12, Try.ntmps12
      go_wp2_with (first | (go_at_call 24; refine (hm _ he).mono ?_; rintro e w' ⟨rfl, hB⟩; rw [HS.out]))
      go_ret
      exact ⟨rfl, hB⟩
set_option maxHeartbeats 4000000 in
theorem stand_any (N : Int) (w : World) (a : Option Addr) (n cap : Nat) (es : List Ed) (he : Edits w a n es) (hn : n ≤ maxLen) :
    Calls Try.prog 25 #[.int .i64 N, .slice a n cap] w fun e w' => e = .returned (.bool (stands N 0 es)) ∧ Below w.heap.size w w' := by
  have HL := Lib.hid he.1
  unfold maxLen at hn
  go_enter Try.func25, Try.ntmps25
  go_wp2
  go_loopw [5] (fun i wr => ∃ (k : Nat) (E : Int), k ≤ n ∧ i = .int .i64 k ∧ 0 ≤ E ∧ Below w.heap.size w wr ∧ Hid (stands N 0 es = stands N E (es.drop k)) ∧ Hid ((k = 0 ∧ E = 0) ∨ ∃ j y, k = j + 1 ∧ es[j]? = some y ∧ y.hi = E)) (fun i _ => n - (intOf i).toNat)
  case atStart => exact ⟨0, 0, Nat.zero_le _, rfl, by omega, Below.refl _ _, Lib.hid (by simp), Lib.hid (.inl ⟨rfl, rfl⟩)⟩
  case round =>
    obtain ⟨k, E, hk, rfl, hE, hB, HR, HE⟩ := hrel
    by_cases hlt : k < n
    · obtain ⟨⟨lo, hi, tx⟩, hxk⟩ : ∃ x, es[k]? = some x := ⟨es[k]'(by have := HL.out; omega), List.getElem?_eq_getElem (by have := HL.out; omega)⟩
      have her := edits_below he hB
      obtain ⟨g, off, rfl, c0, c1, c2⟩ := her.2 k _ hxk
      dsimp only at c0 c1 c2
      have HA := Lib.hid (stands_at N E es k _ hxk)
      have i1 : (k : Int) < (n : Int) := by omega
      have HXK := Lib.hid hxk
      have HER := Lib.hid her
      clear hxk he her
      by_cases h1 : lo < 0
      · go_wp2
        go_quiet (fail)
        go_wp2
        go_ret
        exact ⟨ret_bool (by rw [HR.out, HA.out]; simp; omega), below_drewN hB _⟩
      · have d1 : decide (lo < 0) = false := by rw [decide_eq_false_iff_not]; exact h1
        by_cases h2 : hi < lo
        · go_wp2
          go_quiet (fail)
          go_wp2
          go_ret
          exact ⟨ret_bool (by rw [HR.out, HA.out]; simp; omega), below_drewN hB _⟩
        · have d2 : decide (hi < lo) = false := by rw [decide_eq_false_iff_not]; exact h2
          by_cases h3 : N < hi
          · go_wp2
            go_quiet (fail)
            go_wp2
            go_ret
            exact ⟨ret_bool (by rw [HR.out, HA.out]; simp; omega), below_drewN hB _⟩
          · have d3 : decide (N < hi) = false := by rw [decide_eq_false_iff_not]; exact h3
            rcases HE.out with ⟨hk0, hE0⟩ | ⟨j, y, hkj, hyj, hyE⟩
            · have d4 : decide ((0 : Int) < (k : Int)) = false := by rw [decide_eq_false_iff_not]; omega
              have d5 : decide (0 < k) = false := by rw [decide_eq_false_iff_not]; omega
              have HK0 := Lib.hid (And.intro hk0 hE0)
              have hlo : E ≤ lo := by omega
              clear hk0 hE0
              go_wp2
              go_quiet (fail)
              go_wp2
              go_roundw
              case rel => exact ⟨k + 1, hi, by omega, by go_num, by omega, below_drewN hB _, Lib.hid (by rw [HR.out, HA.out]; simp; omega), Lib.hid (.inr ⟨k, _, rfl, HXK.out, rfl⟩)⟩
              case measure => simp [intOf]; omega
            · obtain ⟨ylo, yhi, ytx⟩ := y
              dsimp only at hyE
              subst hyE
              obtain ⟨g', off', e2, p0, p1, p2⟩ := HER.out.2 j _ hyj
              simp only [Option.some.injEq, Addr.mk.injEq, and_true] at e2
              obtain ⟨rfl, rfl⟩ := e2
              dsimp only at p0 p1 p2
              have i4 : 0 < k := by omega
              have i5 : (0 : Int) < (k : Int) := by omega
              have i6 : (j : Int) < (n : Int) := by omega
              have w1 : IntKind.i64.wrap ((k : Int) - 1) = (j : Int) := by rw [IntKind.wrap_i64]; omega
              have HKJ := Lib.hid (And.intro hkj hyj)
              clear hkj hyj p0 p2
              by_cases h5 : lo < yhi
              · go_wp2
                go_quiet (fail)
                go_wp2
                go_ret
                exact ⟨ret_bool (by rw [HR.out, HA.out]; simp; omega), below_drewN hB _⟩
              · have d6 : decide (lo < yhi) = false := by rw [decide_eq_false_iff_not]; exact h5
                go_wp2
                go_quiet (fail)
                go_wp2
                go_roundw
                case rel => exact ⟨k + 1, hi, by omega, by go_num, by omega, below_drewN hB _, Lib.hid (by rw [HR.out, HA.out]; simp; omega), Lib.hid (.inr ⟨k, _, rfl, HXK.out, rfl⟩)⟩
                case measure => simp [intOf]; omega
    · go_wp2
      go_ret
      exact ⟨ret_bool (by rw [HR.out, List.drop_of_length_le (by have := HL.out; omega)]; rfl), hB⟩
end Go.Proofs.Ytigmakdfladjnaa
