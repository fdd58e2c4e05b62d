/-
  Layer 4: the law LinesOrder.
-/
import Derived.Test.YthbjiecckehckabK
namespace Go.Proofs.Ythbjiecckehckab
open Go.ChangeShapes Go.WideShapes Go.ChangeAt Go.RowKit

theorem at_err (s : ByteArray) (off : Int) : (atErr s off = 0 ∧ 0 ≤ off ∧ off ≤ s.size) ∨ atErr s off = 1 := by
  by_cases h : 0 ≤ off ∧ off ≤ s.size
  · exact .inl ⟨by unfold atErr; rw [if_pos h], h⟩
  · exact .inr (by unfold atErr; rw [if_neg h])
theorem at_order (s : ByteArray) (a b : Int) (ha : 0 ≤ a ∧ a ≤ s.size) (hb : 0 ≤ b ∧ b ≤ s.size) (h : a ≤ b) :
    atLine s a < atLine s b ∨ (atLine s a = atLine s b ∧ atCol s b - atCol s a = b - a) := by
  obtain ⟨i, rfl⟩ : ∃ i : Nat, a = (i : Int) := ⟨a.toNat, by omega⟩
  obtain ⟨j, rfl⟩ : ∃ j : Nat, b = (j : Int) := ⟨b.toNat, by omega⟩
  unfold atLine atCol
  rw [if_pos ha, if_pos hb, if_pos ha, if_pos hb, Int.toNat_natCast, Int.toNat_natCast]
  rcases ord_of s.data.toList i j (by omega) with h1 | ⟨h1, h2⟩
  · left; omega
  · right; rw [h1, h2]; exact ⟨rfl, by omega⟩

set_option maxHeartbeats 4000000 in
theorem order_yes (s : ByteArray) (a b la ca lb cb : Int)
    (h1 : ∀ w, Calls Try.prog 17 #[.string s, .int .i64 a] w fun e w' => e = .returned (.tuple #[.agg #[.int .i64 la, .int .i64 ca], .int .i64 0]) ∧ Below w.heap.size w w')
    (h2 : ∀ w, Calls Try.prog 17 #[.string s, .int .i64 b] w fun e w' => e = .returned (.tuple #[.agg #[.int .i64 lb, .int .i64 cb], .int .i64 0]) ∧ Below w.heap.size w w')
    (hab : (la < lb ∧ a < b) ∨ (la = lb ∧ ca < cb ∧ a < b) ∨ (la = lb ∧ cb ≤ ca ∧ b ≤ a) ∨ (lb < la ∧ b ≤ a)) (w : World) :
    Calls Try.prog 9 #[.string s, .int .i64 a, .int .i64 b] w fun e w' => e = .returned (.bool true) ∧ Below w.heap.size w w' := by
  have hA : Below w.heap.size w w := Below.refl _ _
  have H1 := Lib.hid h1
  have H2 := Lib.hid h2
  clear h1 h2
  have TOK : True := trivial
  rcases hab with ⟨g1, g2⟩ | ⟨rfl, g2, g3⟩ | ⟨rfl, g2, g3⟩ | ⟨g1, g2⟩
  · have d1 : decide (la < lb) = true := decide_eq_true g1
    have d2 : decide (a < b) = true := decide_eq_true g2
    clear g1 g2
    go_enter Try.func9, Try.ntmps9
    go_wp2_with (first
      | (go_at_call 17; clear TOK; refine (H1.out _).mono ?_; rintro e w1 ⟨rfl, hB⟩; replace hA := below_chain hA hB; clear hB)
      | (go_at_call 17; refine (H2.out _).mono ?_; rintro e w2 ⟨rfl, hB⟩; obtain ⟨p0, p1, hB3⟩ := pos_cells hB; replace hA := below_chain hA hB3; clear hB hB3)
      | (go_at_call 11; refine (fixed_any _).mono ?_; rintro e w3 ⟨rfl, hB⟩; obtain ⟨q0, q1, hB3⟩ := pos_cells hB; replace p0 := pos_more' p0 hB3 (Nat.le_refl _); replace p1 := pos_more' p1 hB3 (Nat.le_refl _); replace hA := below_chain hA hB3; clear hB hB3))
    go_ret
    exact ⟨rfl, hA⟩
  · have d1 : decide (ca < cb) = true := decide_eq_true g2
    have d2 : decide (a < b) = true := decide_eq_true g3
    clear g2 g3
    go_enter Try.func9, Try.ntmps9
    go_wp2_with (first
      | (go_at_call 17; clear TOK; refine (H1.out _).mono ?_; rintro e w1 ⟨rfl, hB⟩; replace hA := below_chain hA hB; clear hB)
      | (go_at_call 17; refine (H2.out _).mono ?_; rintro e w2 ⟨rfl, hB⟩; obtain ⟨p0, p1, hB3⟩ := pos_cells hB; replace hA := below_chain hA hB3; clear hB hB3)
      | (go_at_call 11; refine (fixed_any _).mono ?_; rintro e w3 ⟨rfl, hB⟩; obtain ⟨q0, q1, hB3⟩ := pos_cells hB; replace p0 := pos_more' p0 hB3 (Nat.le_refl _); replace p1 := pos_more' p1 hB3 (Nat.le_refl _); replace hA := below_chain hA hB3; clear hB hB3))
    go_ret
    exact ⟨rfl, hA⟩
  · have d1 : decide (ca < cb) = false := decide_eq_false (by omega)
    have d2 : decide (a < b) = false := decide_eq_false (by omega)
    clear g2 g3
    go_enter Try.func9, Try.ntmps9
    go_wp2_with (first
      | (go_at_call 17; clear TOK; refine (H1.out _).mono ?_; rintro e w1 ⟨rfl, hB⟩; replace hA := below_chain hA hB; clear hB)
      | (go_at_call 17; refine (H2.out _).mono ?_; rintro e w2 ⟨rfl, hB⟩; obtain ⟨p0, p1, hB3⟩ := pos_cells hB; replace hA := below_chain hA hB3; clear hB hB3)
      | (go_at_call 11; refine (fixed_any _).mono ?_; rintro e w3 ⟨rfl, hB⟩; obtain ⟨q0, q1, hB3⟩ := pos_cells hB; replace p0 := pos_more' p0 hB3 (Nat.le_refl _); replace p1 := pos_more' p1 hB3 (Nat.le_refl _); replace hA := below_chain hA hB3; clear hB hB3))
    go_ret
    exact ⟨rfl, hA⟩
  · have d1 : decide (la < lb) = false := decide_eq_false (by omega)
    have d3 : (la == lb) = false := beq_eq_false_iff_ne.2 (by omega)
    have d2 : decide (a < b) = false := decide_eq_false (by omega)
    clear g1 g2
    go_enter Try.func9, Try.ntmps9
    go_wp2_with (first
      | (go_at_call 17; clear TOK; refine (H1.out _).mono ?_; rintro e w1 ⟨rfl, hB⟩; replace hA := below_chain hA hB; clear hB)
      | (go_at_call 17; refine (H2.out _).mono ?_; rintro e w2 ⟨rfl, hB⟩; obtain ⟨p0, p1, hB3⟩ := pos_cells hB; replace hA := below_chain hA hB3; clear hB hB3)
      | (go_at_call 11; refine (fixed_any _).mono ?_; rintro e w3 ⟨rfl, hB⟩; obtain ⟨q0, q1, hB3⟩ := pos_cells hB; replace p0 := pos_more' p0 hB3 (Nat.le_refl _); replace p1 := pos_more' p1 hB3 (Nat.le_refl _); replace hA := below_chain hA hB3; clear hB hB3))
    go_ret
    exact ⟨rfl, hA⟩

set_option maxHeartbeats 4000000 in
theorem order_no (s : ByteArray) (a b la ca lb cb ea eb : Int)
    (h1 : ∀ w, Calls Try.prog 17 #[.string s, .int .i64 a] w fun e w' => e = .returned (.tuple #[.agg #[.int .i64 la, .int .i64 ca], .int .i64 ea]) ∧ Below w.heap.size w w')
    (h2 : ∀ w, Calls Try.prog 17 #[.string s, .int .i64 b] w fun e w' => e = .returned (.tuple #[.agg #[.int .i64 lb, .int .i64 cb], .int .i64 eb]) ∧ Below w.heap.size w w')
    (he : ea = 1 ∨ ea = 0 ∧ eb = 1) (w : World) :
    Calls Try.prog 9 #[.string s, .int .i64 a, .int .i64 b] w fun e w' => e = .returned (.bool true) ∧ Below w.heap.size w w' := by
  have hA : Below w.heap.size w w := Below.refl _ _
  have H1 := Lib.hid h1
  have H2 := Lib.hid h2
  clear h1 h2
  have TOK : True := trivial
  have TOK2 : True ∧ True := ⟨trivial, trivial⟩
  rcases he with rfl | ⟨rfl, rfl⟩
  all_goals
    go_enter Try.func9, Try.ntmps9
    go_wp2_with (first
      | (go_at_call 17; clear TOK; refine (H1.out _).mono ?_; rintro e w1 ⟨rfl, hB⟩; replace hA := below_chain hA hB; clear hB)
      | (go_at_call 17; refine (H2.out _).mono ?_; rintro e w2 ⟨rfl, hB⟩; obtain ⟨p0, p1, hB3⟩ := pos_cells hB; replace hA := below_chain hA hB3; clear hB hB3)
      | (go_at_call 11; clear TOK2; refine (fixed_any _).mono ?_; rintro e w3 ⟨rfl, hB⟩; obtain ⟨q0, q1, hB3⟩ := pos_cells hB; replace hA := below_chain hA hB3; clear hB hB3)
      | (go_at_call 11; refine (fixed_any _).mono ?_; rintro e w4 ⟨rfl, hB⟩; replace hA := below_chain hA hB; clear hB))
    go_ret
    exact ⟨rfl, hA⟩

theorem linesOrder_walk (s : ByteArray) (a b : Int) (_ : s.size ≤ maxLen) (_ : (Lit.int .i64 a).wf = true) (_ : (Lit.int .i64 b).wf = true) (hs : s.size ≤ 1048576) (w : World) :
    Calls Try.prog 9 #[.string s, .int .i64 a, .int .i64 b] w fun e w' => e = .returned (.bool true) ∧ Below w.heap.size w w' := by
  have h1 := fun w => at_any s hs a w
  have h2 := fun w => at_any s hs b w
  rcases at_err s a with ⟨ea, ha⟩ | ea
  · rcases at_err s b with ⟨eb, hb⟩ | eb
    · rw [ea] at h1; rw [eb] at h2
      refine order_yes s a b _ _ _ _ h1 h2 ?_ w
      by_cases hab : a < b
      · rcases at_order s a b ha hb (by omega) with g | ⟨g1, g2⟩
        · exact .inl ⟨g, hab⟩
        · exact .inr (.inl ⟨g1, by omega, hab⟩)
      · rcases at_order s b a hb ha (by omega) with g | ⟨g1, g2⟩
        · exact .inr (.inr (.inr ⟨g, by omega⟩))
        · exact .inr (.inr (.inl ⟨g1.symm, by omega, by omega⟩))
    · exact order_no s a b _ _ _ _ _ _ h1 h2 (.inr ⟨ea, eb⟩) w
  · exact order_no s a b _ _ _ _ _ _ h1 h2 (.inl ea) w
end Go.Proofs.Ythbjiecckehckab
