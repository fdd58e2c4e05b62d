/-
  Layer 3: the laws SpanChecks, SpanApplies, SpanMoves, SpanDiffs.
-/
import Derived.Test.YtigmakdfladjnaaX
namespace Go.Proofs.Ytigmakdfladjnaa
open Go.ChangeShapes Go.WideShapes Go.ChangeAt Go.RowKit

theorem move_any (N at' : Int) (w : World) (a : Option Addr) (n cap : Nat) (es : List Ed) (he : Edits w a n es) (hn : n ≤ maxLen) :
    Calls Try.prog 16 #[.int .i64 N, .slice a n cap, .int .i64 at'] w fun e w' => e = .returned (.tuple #[.int .i64 (moved N es at').1, .bool (moved N es at').2]) ∧ Below w.heap.size w w' := by
  by_cases h : checked' N es = 0 ∧ 0 ≤ at' ∧ at' ≤ N
  · exact move_ok N at' w a n cap es he hn h.1 h.2.1 h.2.2
  · have : moved N es at' = (0, false) := by unfold moved; rw [if_neg h]
    rw [this]; exact move_bad N at' w a n cap es he hn h
theorem rmove_any (N at' : Int) (w : World) (a : Option Addr) (n cap : Nat) (es : List Ed) (he : Edits w a n es) (hn : n ≤ maxLen) :
    Calls Try.prog 17 #[.int .i64 N, .slice a n cap, .int .i64 at'] w fun e w' => e = .returned (.tuple #[.int .i64 (moved N es at').1, .bool (moved N es at').2]) ∧ Below w.heap.size w w' := by
  by_cases h : checked' N es = 0 ∧ 0 ≤ at' ∧ at' ≤ N
  · exact rmove_ok N at' w a n cap es he hn h.1 h.2.1 h.2.2
  · have : moved N es at' = (0, false) := by unfold moved; rw [if_neg h]
    rw [this]; exact rmove_bad N at' w a n cap es he hn h

set_option maxHeartbeats 1000000 in
theorem spanChecks_walk (N : Int) (a : Option Addr) (n cap : Nat) (es : List Ed) (w : World) (he : Edits w a n es) (hn : n ≤ maxLen) :
    Calls Try.prog 3 #[.int .i64 N, .slice a n cap] w fun e w' => e = .returned (.bool true) ∧ Below w.heap.size w w' := by
  have hA : Below w.heap.size w w := Below.refl _ _
  have h1 := fun w (he : Edits w a n es) => check_any N w a n cap es he hn
  have h2 := fun w (he : Edits w a n es) => rcheck_any N w a n cap es he hn
  generalize checked' N es = c at h1 h2
  have H1 := Lib.hid h1
  have H2 := Lib.hid h2
  clear h1 h2
  go_enter Try.func3, Try.ntmps3
  go_wp2_with (first
    | (go_at_call 11; refine (fixed_any _).mono ?_; rintro e w1 ⟨rfl, hB⟩; replace he := edits_below he hB; replace hA := below_chain hA hB; clear hB)
    | (go_at_call 12; refine (H1.out _ he).mono ?_; rintro e w2 ⟨rfl, hB⟩; replace he := edits_below he hB; replace hA := below_chain hA hB; clear hB)
    | (go_at_call 13; refine (H2.out _ he).mono ?_; rintro e w3 ⟨rfl, hB⟩; replace hA := below_chain hA hB; clear hB))
  go_ret
  exact ⟨rfl, hA⟩

set_option maxHeartbeats 1000000 in
theorem spanMoves_walk (N : Int) (a : Option Addr) (n cap : Nat) (es : List Ed) (at' : Int) (w : World) (he : Edits w a n es) (hn : n ≤ maxLen) :
    Calls Try.prog 5 #[.int .i64 N, .slice a n cap, .int .i64 at'] w fun e w' => e = .returned (.bool true) ∧ Below w.heap.size w w' := by
  have hA : Below w.heap.size w w := Below.refl _ _
  have h1 := fun w (he : Edits w a n es) => move_any N at' w a n cap es he hn
  have h2 := fun w (he : Edits w a n es) => rmove_any N at' w a n cap es he hn
  generalize (moved N es at').1 = c at h1 h2
  generalize (moved N es at').2 = b at h1 h2
  have H1 := Lib.hid h1
  have H2 := Lib.hid h2
  clear h1 h2
  go_enter Try.func5, Try.ntmps5
  go_wp2_with (first
    | (go_at_call 11; refine (fixed_any _).mono ?_; rintro e w1 ⟨rfl, hB⟩; replace hA := below_chain hA hB; clear hB)
    | (go_at_call 16; refine (H1.out _ he).mono ?_; rintro e w2 ⟨rfl, hB⟩; replace he := edits_below he hB; replace hA := below_chain hA hB; clear hB)
    | (go_at_call 17; refine (H2.out _ he).mono ?_; rintro e w3 ⟨rfl, hB⟩; replace hA := below_chain hA hB; clear hB))
  go_ret
  exact ⟨by simp, hA⟩

set_option maxHeartbeats 1000000 in
theorem spanApplies_in (s : ByteArray) (a : Option Addr) (n cap : Nat) (es : List Ed) (w : World) (he : Edits w a n es)
    (h1 : ∀ w, Edits w a n es → Calls Try.prog 14 #[.string s, .slice a n cap] w fun e w' => e = .returned (.tuple #[.string ⟨(applied s es).1.toArray⟩, .int .i64 (applied s es).2]) ∧ Below w.heap.size w w')
    (h2 : ∀ w, Edits w a n es → Calls Try.prog 15 #[.string s, .slice a n cap] w fun e w' => e = .returned (.tuple #[.string ⟨(applied s es).1.toArray⟩, .int .i64 (applied s es).2]) ∧ Below w.heap.size w w') :
    Calls Try.prog 4 #[.string s, .slice a n cap] w fun e w' => e = .returned (.bool true) ∧ Below w.heap.size w w' := by
  have hA : Below w.heap.size w w := Below.refl _ _
  generalize (applied s es).1 = T at h1 h2
  generalize (applied s es).2 = c at h1 h2
  have H1 := Lib.hid h1
  have H2 := Lib.hid h2
  clear h1 h2
  go_enter Try.func4, Try.ntmps4
  go_wp2_with (first
    | (go_at_call 14; refine (H1.out _ he).mono ?_; rintro e w2 ⟨rfl, hB⟩; replace he := edits_below he hB; replace hA := below_chain hA hB; clear hB)
    | (go_at_call 15; refine (H2.out _ he).mono ?_; rintro e w3 ⟨rfl, hB⟩; replace hA := below_chain hA hB; clear hB)
    | (go_at_call 11; refine (fixed_any _).mono ?_; rintro e w1 ⟨rfl, hB⟩; replace hA := below_chain hA hB; clear hB))
  go_ret
  exact ⟨by simp, hA⟩
theorem spanApplies_walk (s : ByteArray) (a : Option Addr) (n cap : Nat) (es : List Ed) (w : World) (hs : s.size ≤ maxLen) (he : Edits w a n es) (hn : n ≤ maxLen) (htx : ∀ x ∈ es, x.tx.size ≤ 140737488351232) :
    Calls Try.prog 4 #[.string s, .slice a n cap] w fun e w' => e = .returned (.bool true) ∧ Below w.heap.size w w' :=
  spanApplies_in s a n cap es w he (fun w he => apply_any s w a n cap es he hn hs) (fun w he => rapply_any s w a n cap es he hn htx hs)
end Go.Proofs.Ytigmakdfladjnaa
