/-
  Layer 4: the laws LinesStarts, LinesTexts, LinesPlaces.
-/
import Derived.Test.YthbjiecckehckabI
namespace Go.Proofs.Ythbjiecckehckab
open Go.ChangeShapes Go.WideShapes Go.ChangeAt Go.RowKit

theorem below_chain {a b c : World} (h : Below a.heap.size a b) (k : Below b.heap.size b c) : Below a.heap.size a c := h.trans (k.mono h.size)

set_option maxHeartbeats 2000000 in
theorem linesStarts_walk (s : ByteArray) (_ : s.size ≤ maxLen) (hs : s.size ≤ 1048576) (w : World) : Calls Try.prog 3 #[.string s] w fun e w' => e = .returned (.bool true) ∧ Below w.heap.size w w' := by
  have hall : (starts s).length = s.data.toList.count 10 + 1 := stK_all s.data.toList
  have hA : Below w.heap.size w w := Below.refl _ _
  have hsm : s.size < maxLen := by unfold maxLen; omega
  generalize hn : s.data.toList.count 10 + 1 = n at hall
  have HN := Lib.hid hn
  clear hn
  have hlen : ∀ w v, Ns w v (starts s) → ∃ g cap, v = .slice (some ⟨g, 0, none⟩) n cap := by
    intro w v ⟨g, cap, e, _⟩
    exact ⟨g, cap, by rw [e, hall]⟩
  have HL := Lib.hid hlen
  clear hlen
  go_enter Try.func3, Try.ntmps3
  go_wp2_with (first
    | (go_at_call 10; refine (starts_any s hs _).mono ?_; rintro e w1 ⟨⟨v, rfl, hv⟩, hB⟩; replace hA := below_chain hA hB; obtain ⟨g, cap, rfl⟩ := HL.out _ _ hv; clear hB)
    | (go_at_call 11; refine (fixed_any _).mono ?_; rintro e w2 ⟨rfl, hB⟩; replace hA := below_chain hA hB; replace hv := ns_below hv hB; clear hB)
    | (go_at_call 13; refine (rstarts_any s hs _).mono ?_; rintro e w3 ⟨⟨u, rfl, hu⟩, hB⟩; replace hA := below_chain hA hB; replace hv := ns_below hv hB; clear hB)
    | (go_at_call 12; refine (ints_same _ _ _ _ hv hu).mono ?_; rintro e w4 ⟨rfl, hB⟩; replace hA := below_chain hA hB; clear hB)
    | (go_at_call 14; refine (count_any s hsm _).mono ?_; rintro e w5 ⟨rfl, h⟩; subst w5; rw [HN.out]))
  go_ret
  exact ⟨rfl, hA⟩

set_option maxHeartbeats 2000000 in
theorem linesTexts_walk (s : ByteArray) (n : Int) (_ : s.size ≤ maxLen) (_ : (Lit.int .i64 n).wf = true) (hs : s.size ≤ 1048576) (w : World) : Calls Try.prog 4 #[.string s, .int .i64 n] w fun e w' => e = .returned (.bool true) ∧ Below w.heap.size w w' := by
  have hA : Below w.heap.size w w := Below.refl _ _
  have h1 := fun w => line_any s hs n w
  have h2 := fun w => rline_any s hs n w
  generalize lineText s n = t at h1 h2
  generalize lineErr s n = x at h1 h2
  have H1 := Lib.hid h1
  have H2 := Lib.hid h2
  clear h1 h2
  go_enter Try.func4, Try.ntmps4
  go_wp2_with (first
    | (go_at_call 15; refine (H1.out _).mono ?_; rintro e w1 ⟨rfl, hB⟩; replace hA := below_chain hA hB; clear hB)
    | (go_at_call 16; refine (H2.out _).mono ?_; rintro e w2 ⟨rfl, hB⟩; replace hA := below_chain hA hB; clear hB)
    | (go_at_call 11; refine (fixed_any _).mono ?_; rintro e w3 ⟨rfl, hB⟩; replace hA := below_chain hA hB; clear hB))
  go_ret
  exact ⟨by simp, hA⟩

set_option maxHeartbeats 2000000 in
theorem linesPlaces_walk (s : ByteArray) (off : Int) (_ : s.size ≤ maxLen) (_ : (Lit.int .i64 off).wf = true) (hs : s.size ≤ 1048576) (w : World) : Calls Try.prog 5 #[.string s, .int .i64 off] w fun e w' => e = .returned (.bool true) ∧ Below w.heap.size w w' := by
  have hA : Below w.heap.size w w := Below.refl _ _
  have h1 := fun w => at_any s hs off w
  have h2 := fun w => rat_any s hs off w
  generalize atLine s off = l at h1 h2
  generalize atCol s off = c at h1 h2
  generalize atErr s off = x at h1 h2
  have H1 := Lib.hid h1
  have H2 := Lib.hid h2
  clear h1 h2
  have heq : ∀ w, (binOp .eql 33 (.agg #[.int .i64 l, .int .i64 c]) (.agg #[.int .i64 l, .int .i64 c])).run Try.prog w = .ok (.bool true) w := fun w => by rw [pos_eql]; simp
  have hgd := fun u v xs ys w => pos_guard .eql u v xs ys w (.inl rfl)
  go_enter Try.func5, Try.ntmps5
  go_wp2_with (first
    | (go_at_call 17; refine (H1.out _).mono ?_; rintro e w1 ⟨rfl, hB⟩; replace hA := below_chain hA hB; clear hB)
    | (go_at_call 18; refine (H2.out _).mono ?_; rintro e w2 ⟨rfl, hB⟩; obtain ⟨p0, p1, hB3⟩ := pos_cells hB; replace hA := below_chain hA hB3; clear hB hB3)
    | (go_at_call 11; refine (fixed_any _).mono ?_; rintro e w3 ⟨rfl, hB⟩; obtain ⟨q0, q1, hB3⟩ := pos_cells hB; replace p0 := pos_more' p0 hB3 (Nat.le_refl _); replace p1 := pos_more' p1 hB3 (Nat.le_refl _); replace hA := below_chain hA hB3; clear hB hB3))
  go_ret
  exact ⟨by simp, hA⟩
end Go.Proofs.Ythbjiecckehckab
