/-
  Layer 3: contract of the document's Apply.
-/
import Derived.Test.YtigmakdfladjnaaJ
namespace Go.Proofs.Ytigmakdfladjnaa
open Go.ChangeShapes Go.WideShapes Go.ChangeAt Go.RowKit

theorem puts_textOf (s : List UInt8) : ∀ (es : List Ed) (r : Nat), puts es ≤ (textOf s r es).length
  | [], _ => Nat.zero_le _
  | x :: l, r => by
    have h := puts_textOf s l x.hi.toNat
    have h7 : x.tx.data.toList.length = x.tx.size := rfl
    simp only [textOf, puts, List.length_append]
    omega
theorem applied_edited (s : ByteArray) (es : List Ed) (hs : s.size ≤ 65536) (hr : refused s es = 0) : applied s es = if (edited' s es).2 then ((edited' s es).1, 0) else ([], 2) := by
  have h := puts_textOf s.data.toList es 0
  unfold applied edited'
  rw [if_pos hr]
  by_cases h1 : 262144 < s.size + puts es
  · rw [if_pos h1, if_pos (by omega)]; rfl
  · rw [if_neg h1]
    by_cases h2 : 65536 < (textOf s.data.toList 0 es).length
    · rw [if_pos h2, if_neg (by simp; omega)]
    · rw [if_neg h2, if_pos (by simp; omega)]
set_option maxHeartbeats 4000000 in
theorem rapply_any (s : ByteArray) (w : World) (a : Option Addr) (n cap : Nat) (es : List Ed) (he : Edits w a n es) (hn : n ≤ maxLen) (htx : ∀ x ∈ es, x.tx.size ≤ 140737488351232) (hs : s.size ≤ maxLen) :
    Calls Try.prog 15 #[.string s, .slice a n cap] w fun e w' => e = .returned (.tuple #[.string ⟨(applied s es).1.toArray⟩, .int .i64 (applied s es).2]) ∧ Below w.heap.size w w' := by
  unfold maxLen at hs
  by_cases h1 : 65536 < s.size
  · have hr : refused s es = 2 := by unfold refused; rw [if_pos h1]
    have hap : applied s es = ([], 2) := by unfold applied; rw [hr]; rfl
    rw [hap]
    clear hr hap
    go_enter Try.func15, Try.ntmps15
    go_wp2
    go_ret2
    exact ⟨rfl, Below.refl _ _⟩
  · have hst := fun w (he : Edits w a n es) => stand_any s.size w a n cap es he hn
    cases hs2 : stands s.size 0 es with
    | false =>
      have hr : refused s es = 13 := by unfold refused checked'; rw [if_neg h1, if_neg (by omega), hs2]; rfl
      have hap : applied s es = ([], 13) := by unfold applied; rw [hr]; rfl
      rw [hap]
      have HS := Lib.hid hs2
      clear hr hap hs2
      go_enter Try.func15, Try.ntmps15
      go_wp2_with (first | (go_at_call 25; refine (hst _ he).mono ?_; rintro e w1 ⟨rfl, hB⟩; rw [HS.out]))
      go_ret2
      exact ⟨rfl, hB⟩
    | true =>
      have hr : refused s es = 0 := by unfold refused checked'; rw [if_neg h1, if_neg (by omega), hs2]; rfl
      have hap := applied_edited s es (by omega) hr
      have hed := fun w (he : Edits w a n es) => redited_any s w a n cap es he hn htx (by omega) hs2
      have HS := Lib.hid hs2
      obtain ⟨⟨T, ok⟩, hE⟩ : ∃ p, edited' s es = p := ⟨_, rfl⟩
      rw [hE] at hap hed
      dsimp only at hap hed
      rw [hap]
      clear hr hap hs2 hE
      cases ok with
      | true =>
        go_enter Try.func15, Try.ntmps15
        go_wp2_with (first
          | (go_at_call 25; refine (hst _ he).mono ?_; rintro e w1 ⟨rfl, hB⟩; rw [HS.out]; replace he := edits_below he hB)
          | (go_at_call 29; refine (hed _ he).mono ?_; rintro e w2 ⟨rfl, hB2⟩))
        go_ret2
        exact ⟨rfl, below_chain hB hB2⟩
      | false =>
        go_enter Try.func15, Try.ntmps15
        go_wp2_with (first
          | (go_at_call 25; refine (hst _ he).mono ?_; rintro e w1 ⟨rfl, hB⟩; rw [HS.out]; replace he := edits_below he hB)
          | (go_at_call 29; refine (hed _ he).mono ?_; rintro e w2 ⟨rfl, hB2⟩))
        go_ret2
        exact ⟨rfl, below_chain hB hB2⟩
end Go.Proofs.Ytigmakdfladjnaa
