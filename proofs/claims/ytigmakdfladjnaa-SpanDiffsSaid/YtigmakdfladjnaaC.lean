/-
  Layer 3: contracts of the document's Check, of span.check, grown and Move.
-/
import Derived.Test.YtigmakdfladjnaaB
namespace Go.Proofs.Ytigmakdfladjnaa
open Go.ChangeShapes Go.WideShapes Go.ChangeAt Go.RowKit

theorem rcheck_any (N : Int) (w : World) (a : Option Addr) (n cap : Nat) (es : List Ed) (he : Edits w a n es) (hn : n ≤ maxLen) :
    Calls Try.prog 13 #[.int .i64 N, .slice a n cap] w fun e w' => e = .returned (.int .i64 (checked' N es)) ∧ Below w.heap.size w w' := by
  by_cases h1 : N < 0 ∨ 65536 < N
  · have hc : checked' N es = 1 := by unfold checked'; rw [if_pos h1]
    rw [hc]
    clear hc
    rcases h1 with h1 | h1
    · go_enter Try.func13, Try.ntmps13
      go_wp2
      go_ret
      exact ⟨rfl, Below.refl _ _⟩
    · go_enter Try.func13, Try.ntmps13
      go_wp2
      all_goals
        go_ret
        exact ⟨rfl, Below.refl _ _⟩
  · have h2 : 0 ≤ N := by omega
    have h3 : N ≤ 65536 := by omega
    have hm := fun w (he : Edits w a n es) => stand_any N w a n cap es he hn
    cases hs : stands N 0 es with
    | true =>
      have hc : checked' N es = 0 := by unfold checked'; rw [if_neg h1, hs]; rfl
      rw [hc]
      have HS := Lib.hid hs
      clear hc h1 hs
      go_enter Try.func13, Try.ntmps13
      go_wp2_with (first | (go_at_call 25; refine (hm _ he).mono ?_; rintro e w' ⟨rfl, hB⟩; rw [HS.out]))
      go_ret
      exact ⟨rfl, hB⟩
    | false =>
      have hc : checked' N es = 13 := by unfold checked'; rw [if_neg h1, hs]; rfl
      rw [hc]
      have HS := Lib.hid hs
      clear hc h1 hs
      go_enter Try.func13, Try.ntmps13
      go_wp2_with (first | (go_at_call 25; refine (hm _ he).mono ?_; rintro e w' ⟨rfl, hB⟩; rw [HS.out]))
      go_ret
      exact ⟨rfl, hB⟩
/-- what span.check answers -/
def refused (s : ByteArray) (es : List Ed) : Int := if 65536 < s.size then 2 else checked' s.size es
theorem lcheck_any (s : ByteArray) (w : World) (a : Option Addr) (n cap : Nat) (es : List Ed) (he : Edits w a n es) (hn : n ≤ maxLen) (hs : s.size ≤ maxLen) :
    Calls Try.prog 26 #[.string s, .slice a n cap] w fun e w' => e = .returned (.int .i64 (refused s es)) ∧ Below w.heap.size w w' := by
  unfold maxLen at hs
  by_cases h1 : 65536 < s.size
  · have hc : refused s es = 2 := by unfold refused; rw [if_pos h1]
    rw [hc]
    clear hc
    go_enter Try.func26, Try.ntmps26
    go_wp2
    go_ret
    exact ⟨rfl, Below.refl _ _⟩
  · have hc : refused s es = checked' s.size es := by unfold refused; rw [if_neg h1]
    rw [hc]
    have hm := fun w (he : Edits w a n es) => check_any s.size w a n cap es he hn
    clear hc
    go_enter Try.func26, Try.ntmps26
    go_wp2_with (first | (go_at_call 12; refine (hm _ he).mono ?_; rintro e w' ⟨rfl, hB⟩))
    go_ret
    exact ⟨rfl, hB⟩
/-- by how much an edit makes a text longer, as int has it -/
def gain (x : Ed) : Int := wrap64 (x.tx.size - wrap64 (x.hi - x.lo))
theorem grown_any (x : Ed) (w : World) :
    Calls Try.prog 30 #[.agg #[.int .i64 x.lo, .int .i64 x.hi, .string x.tx]] w fun e w' => e = .returned (.int .i64 (gain x)) ∧ Below w.heap.size w w' := by
  go_enter Try.func30, Try.ntmps30
  go_wp2
  go_ret
  exact ⟨rfl, (Below.refl _ w).alloc (Nat.le_refl _) _⟩

/-- where Move has come to -/
def movedTo (at' : Int) : Int → List Ed → Option Int
  | t, [] => some t
  | t, x :: l => if x.lo ≤ at' ∧ at' < x.hi then none else movedTo at' (if x.hi ≤ at' then wrap64 (t + gain x) else t) l
end Go.Proofs.Ytigmakdfladjnaa
