/-
  Layer 11: contracts of term.literal, mayHaveWord, Check.
-/
import Derived.Test.YtoffjpgobhcipaaDoorIf
import Derived.Test.YtoffjpgobhcipaaDoorCc
import Derived.Test.YtoffjpgobhcipaaDoorNe
import Derived.Test.YtoffjpgobhcipaaDoorQd
namespace Go.Proofs.YtoffjpgobhcipaaDoor.Trm
open Go.ChangeShapes Go.WideShapes Go.ChangeAt Go.RowKit

/-- is a word a number, or a text in marks? -/
def isLit (l : List UInt8) : Bool := decide (Num.kindP l ≠ 0) || (valueP l).isSome
set_option maxHeartbeats 4000000 in
theorem literal_any (s : ByteArray) (hs : s.size ≤ 140737488351232) (w : World) :
    Calls Tryd.prog 40 #[.string s] w fun e w' => e = .returned (.bool (isLit s.data.toList)) ∧ Below w.heap.size w w' := by
  have h1 := fun w => Num.kind_any s (by omega) w
  have h2 := fun w => value_any s hs w
  unfold isLit
  by_cases hk : Num.kindP s.data.toList = 0
  · rw [hk] at h1
    rw [decide_eq_false (by simp [hk]), Bool.false_or]
    clear hk
    cases hv : valueP s.data.toList with
    | none =>
      rw [hv] at h2
      have h2' : ∀ w, Calls Tryd.prog 38 #[.string s] w fun e w' => e = .returned (.tuple #[.string ⟨#[]⟩, .int .i64 4]) ∧ Below w.heap.size w w' := h2
      clear hv h2
      go_enter Tryd.func40, Tryd.ntmps40
      go_wp2_with (first
        | (go_at_call 52; refine (h1 _).mono ?_; rintro e w1 ⟨rfl, hB⟩)
        | (go_at_call 38; refine (h2' _).mono ?_; rintro e w2 ⟨rfl, hB2⟩))
      go_ret
      exact ⟨rfl, below_chain hB hB2⟩
    | some v =>
      rw [hv] at h2
      have h2' : ∀ w, Calls Tryd.prog 38 #[.string s] w fun e w' => e = .returned (.tuple #[.string ⟨v.toArray⟩, .int .i64 0]) ∧ Below w.heap.size w w' := h2
      clear hv h2
      go_enter Tryd.func40, Tryd.ntmps40
      go_wp2_with (first
        | (go_at_call 52; refine (h1 _).mono ?_; rintro e w1 ⟨rfl, hB⟩)
        | (go_at_call 38; refine (h2' _).mono ?_; rintro e w2 ⟨rfl, hB2⟩))
      go_ret
      exact ⟨rfl, below_chain hB hB2⟩
  · have q1 : ((Num.kindP s.data.toList : Int) != 0) = true := by simp [hk]
    rw [decide_eq_true hk, Bool.true_or]
    generalize Num.kindP s.data.toList = K at h1 q1
    clear hk h2
    go_enter Tryd.func40, Tryd.ntmps40
    go_wp2_with (go_at_call 52; refine (h1 _).mono ?_; rintro e w1 ⟨rfl, hB⟩)
    go_ret
    exact ⟨rfl, hB⟩
/-- may a part of a kind have a word? (as the program has it) -/
def mayP (k : Nat) (l : List UInt8) : Bool := if k = 26 then Cls.isName l else if k = 27 then isLit l else if k < 69 then mayW k l else (l == [])
set_option maxRecDepth 100000 in
set_option maxHeartbeats 4000000 in
theorem mayHave_no (k : Nat) (h : 69 ≤ k) (s : ByteArray) (w : World) : Calls Tryd.prog 32 #[.int .u8 k, .string s] w fun e w' => e = .returned (.bool (s.data.toList == [])) ∧ w = w' := by
  have q3 := not_kind h 3 (by decide)
  have q4 := not_kind h 4 (by decide)
  have q5 := not_kind h 5 (by decide)
  have q7 := not_kind h 7 (by decide)
  have q15 := not_kind h 15 (by decide)
  have q34 := not_kind h 34 (by decide)
  have q66 := not_kind h 66 (by decide)
  have q26 := not_kind h 26 (by decide)
  have q27 := not_kind h 27 (by decide)
  have q45 := not_kind h 45 (by decide)
  have q52 := not_kind h 52 (by decide)
  have q57 := not_kind h 57 (by decide)
  have q36 := not_kind h 36 (by decide)
  have q37 := not_kind h 37 (by decide)
  have q53 := not_kind h 53 (by decide)
  clear h
  rw [← ByteArray.toList_eq]
  go_enter Tryd.func32, Tryd.ntmps32
  go_wp2
  go_ret
  exact ⟨ret_bool (by cases s.toList <;> rfl), rfl⟩
theorem mayHave_26 (s : ByteArray) (hs : s.size ≤ 140737488351232) (w : World) : Calls Tryd.prog 32 #[.int .u8 26, .string s] w fun e w' => e = .returned (.bool (Cls.isName s.data.toList)) ∧ Below w.heap.size w w' := by
  have h1 := fun w => Cls.name_any s w (by unfold maxLen; omega)
  generalize Cls.isName s.data.toList = v at h1
  go_enter Tryd.func32, Tryd.ntmps32
  go_wp2_with (go_at_call 39; refine (h1 _).mono ?_; rintro e w1 ⟨rfl, hB⟩)
  go_ret
  exact ⟨rfl, hB⟩
theorem mayHave_27 (s : ByteArray) (hs : s.size ≤ 140737488351232) (w : World) : Calls Tryd.prog 32 #[.int .u8 27, .string s] w fun e w' => e = .returned (.bool (isLit s.data.toList)) ∧ Below w.heap.size w w' := by
  have h1 := fun w => literal_any s hs w
  generalize isLit s.data.toList = v at h1
  go_enter Tryd.func32, Tryd.ntmps32
  go_wp2_with (go_at_call 40; refine (h1 _).mono ?_; rintro e w1 ⟨rfl, hB⟩)
  go_ret
  exact ⟨rfl, hB⟩
theorem mayHave_small (k : Nat) (hk : k < 69) (h1 : k ≠ 26) (h2 : k ≠ 27) (s : ByteArray) (w : World) : Calls Tryd.prog 32 #[.int .u8 k, .string s] w fun e w' => e = .returned (.bool (mayW k s.data.toList)) ∧ w = w' := by
  rw [← ByteArray.toList_eq]
  match k, hk, h1, h2 with
  | 0, _, _, _ => exact mayHave_0 s w
  | 1, _, _, _ => exact mayHave_1 s w
  | 2, _, _, _ => exact mayHave_2 s w
  | 3, _, _, _ => exact mayHave_3 s w
  | 4, _, _, _ => exact mayHave_4 s w
  | 5, _, _, _ => exact mayHave_5 s w
  | 6, _, _, _ => exact mayHave_6 s w
  | 7, _, _, _ => exact mayHave_7 s w
  | 8, _, _, _ => exact mayHave_8 s w
  | 9, _, _, _ => exact mayHave_9 s w
  | 10, _, _, _ => exact mayHave_10 s w
  | 11, _, _, _ => exact mayHave_11 s w
  | 12, _, _, _ => exact mayHave_12 s w
  | 13, _, _, _ => exact mayHave_13 s w
  | 14, _, _, _ => exact mayHave_14 s w
  | 15, _, _, _ => exact mayHave_15 s w
  | 16, _, _, _ => exact mayHave_16 s w
  | 17, _, _, _ => exact mayHave_17 s w
  | 18, _, _, _ => exact mayHave_18 s w
  | 19, _, _, _ => exact mayHave_19 s w
  | 20, _, _, _ => exact mayHave_20 s w
  | 21, _, _, _ => exact mayHave_21 s w
  | 22, _, _, _ => exact mayHave_22 s w
  | 23, _, _, _ => exact mayHave_23 s w
  | 24, _, _, _ => exact mayHave_24 s w
  | 25, _, _, _ => exact mayHave_25 s w
  | 26, _, h1, h2 => exact absurd rfl h1
  | 27, _, h1, h2 => exact absurd rfl h2
  | 28, _, _, _ => exact mayHave_28 s w
  | 29, _, _, _ => exact mayHave_29 s w
  | 30, _, _, _ => exact mayHave_30 s w
  | 31, _, _, _ => exact mayHave_31 s w
  | 32, _, _, _ => exact mayHave_32 s w
  | 33, _, _, _ => exact mayHave_33 s w
  | 34, _, _, _ => exact mayHave_34 s w
  | 35, _, _, _ => exact mayHave_35 s w
  | 36, _, _, _ => exact mayHave_36 s w
  | 37, _, _, _ => exact mayHave_37 s w
  | 38, _, _, _ => exact mayHave_38 s w
  | 39, _, _, _ => exact mayHave_39 s w
  | 40, _, _, _ => exact mayHave_40 s w
  | 41, _, _, _ => exact mayHave_41 s w
  | 42, _, _, _ => exact mayHave_42 s w
  | 43, _, _, _ => exact mayHave_43 s w
  | 44, _, _, _ => exact mayHave_44 s w
  | 45, _, _, _ => exact mayHave_45 s w
  | 46, _, _, _ => exact mayHave_46 s w
  | 47, _, _, _ => exact mayHave_47 s w
  | 48, _, _, _ => exact mayHave_48 s w
  | 49, _, _, _ => exact mayHave_49 s w
  | 50, _, _, _ => exact mayHave_50 s w
  | 51, _, _, _ => exact mayHave_51 s w
  | 52, _, _, _ => exact mayHave_52 s w
  | 53, _, _, _ => exact mayHave_53 s w
  | 54, _, _, _ => exact mayHave_54 s w
  | 55, _, _, _ => exact mayHave_55 s w
  | 56, _, _, _ => exact mayHave_56 s w
  | 57, _, _, _ => exact mayHave_57 s w
  | 58, _, _, _ => exact mayHave_58 s w
  | 59, _, _, _ => exact mayHave_59 s w
  | 60, _, _, _ => exact mayHave_60 s w
  | 61, _, _, _ => exact mayHave_61 s w
  | 62, _, _, _ => exact mayHave_62 s w
  | 63, _, _, _ => exact mayHave_63 s w
  | 64, _, _, _ => exact mayHave_64 s w
  | 65, _, _, _ => exact mayHave_65 s w
  | 66, _, _, _ => exact mayHave_66 s w
  | 67, _, _, _ => exact mayHave_67 s w
  | 68, _, _, _ => exact mayHave_68 s w
  | k + 69, h, _, _ => exact absurd h (by omega)
theorem mayHave_any (k : Nat) (s : ByteArray) (hs : s.size ≤ 140737488351232) (w : World) : Calls Tryd.prog 32 #[.int .u8 k, .string s] w fun e w' => e = .returned (.bool (mayP k s.data.toList)) ∧ Below w.heap.size w w' := by
  unfold mayP
  by_cases h1 : k = 26
  · subst h1; rw [if_pos rfl]; exact mayHave_26 s hs w
  · rw [if_neg h1]
    by_cases h2 : k = 27
    · subst h2; rw [if_pos rfl]; exact mayHave_27 s hs w
    · rw [if_neg h2]
      by_cases h3 : k < 69
      · rw [if_pos h3]
        exact (mayHave_small k h3 h1 h2 s w).mono fun e w' ⟨a, b⟩ => ⟨a, b ▸ Below.refl _ _⟩
      · rw [if_neg h3]
        exact (mayHave_no k (by omega) s w).mono fun e w' ⟨a, b⟩ => ⟨a, b ▸ Below.refl _ _⟩
end Go.Proofs.YtoffjpgobhcipaaDoor.Trm
