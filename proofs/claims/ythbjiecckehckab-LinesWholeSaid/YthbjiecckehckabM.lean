/-
  Layer 4: the law LinesBack.
-/
import Derived.Test.YthbjiecckehckabL
namespace Go.Proofs.Ythbjiecckehckab
open Go.ChangeShapes Go.WideShapes Go.ChangeAt Go.RowKit

theorem cell_alloc {w : World} {a : Addr} {v : Value} (h : w.cell? a = some v) (o : Obj) : (w.alloc o).cell? a = some v := by
  rw [((Below.refl _ w).alloc (Nat.le_refl _) o).cell (p := a) (cell_lt h)]; exact h

set_option maxHeartbeats 400000 in
theorem back_in (s : ByteArray) (off la ca line col o g : Int) (ea : Int)
    (h1 : ∀ w, Calls Try.prog 17 #[.string s, .int .i64 off] w fun e w' => e = .returned (.tuple #[.agg #[.int .i64 la, .int .i64 ca], .int .i64 ea]) ∧ Below w.heap.size w w')
    (h2 : ea = 0 → ∀ w, Calls Try.prog 19 #[.string s, .agg #[.int .i64 la, .int .i64 ca]] w fun e w' => e = .returned (.tuple #[.int .i64 off, .int .i64 0]) ∧ Below w.heap.size w w')
    (h3 : ∀ w, Calls Try.prog 19 #[.string s, .agg #[.int .i64 line, .int .i64 col]] w fun e w' => e = .returned (.tuple #[.int .i64 o, .int .i64 g]) ∧ Below w.heap.size w w')
    (h4 : g = 0 → ∀ w, Calls Try.prog 17 #[.string s, .int .i64 o] w fun e w' => e = .returned (.tuple #[.agg #[.int .i64 line, .int .i64 col], .int .i64 0]) ∧ Below w.heap.size w w')
    (he : ea = 0 ∨ ea = 1 ∧ (off < 0 ∨ s.size < off)) (hg : g = 0 ∨ g = 1 ∧ o = 0) (w : World) :
    Calls Try.prog 7 #[.string s, .int .i64 off, .agg #[.int .i64 line, .int .i64 col]] w fun e w' => e = .returned (.bool true) ∧ Below w.heap.size w w' := by
  have H1 := Lib.hid h1
  have H2 := Lib.hid h2
  have H3 := Lib.hid h3
  have H4 := Lib.hid h4
  clear h1 h2 h3 h4
  have heq : ∀ w, (binOp .eql 33 (.agg #[.int .i64 line, .int .i64 col]) (.agg #[.int .i64 line, .int .i64 col])).run Try.prog w = .ok (.bool true) w := fun w => by rw [pos_eql]; simp
  have hgd := fun u v xs ys w => pos_guard .eql u v xs ys w (.inl rfl)
  have HG := Lib.hid hg
  clear hg
  have TOK : True := trivial
  have TOK2 : True ∧ True := ⟨trivial, trivial⟩
  rcases he with rfl | ⟨rfl, hoff⟩
  · have K2 := Lib.hid (H2.out rfl)
    rcases HG.out with rfl | ⟨rfl, rfl⟩
    · have K4 := Lib.hid (H4.out rfl)
      clear H2 H4 HG
      go_enter Try.func7, Try.ntmps7
      go_wp2_with (first
        | (go_at_call 11; refine (fixed_any _).mono ?_; rintro e w1 ⟨rfl, hB⟩; obtain ⟨p0, p1, hA⟩ := pos_cells hB; clear hB)
        | (go_at_call 17; clear TOK; refine (H1.out _).mono ?_; rintro e w2 ⟨rfl, hB⟩; replace p0 := pos_more' p0 hB (Nat.le_refl _); replace p1 := pos_more' p1 hB (Nat.le_refl _); replace hA := below_chain hA hB; clear hB)
        | (go_at_call 19; clear TOK2; refine (K2.out _).mono ?_; rintro e w3 ⟨rfl, hB⟩; obtain ⟨q0, q1, hB3⟩ := pos_cells hB; replace p0 := pos_more' p0 hB3 (Nat.le_refl _); replace p1 := pos_more' p1 hB3 (Nat.le_refl _); replace hA := below_chain hA hB3; clear hB hB3)
        | (go_at_call 19; refine (H3.out _).mono ?_; rintro e w4 ⟨rfl, hB⟩; replace p0 := pos_more' p0 hB (Nat.le_refl _); replace p1 := pos_more' p1 hB (Nat.le_refl _); replace hA := below_chain hA hB; clear hB)
        | (go_at_call 17; refine (K4.out _).mono ?_; rintro e w5 ⟨rfl, hB⟩; replace p0 := pos_more' p0 hB (Nat.le_refl _); replace p1 := pos_more' p1 hB (Nat.le_refl _); replace hA := below_chain hA hB; clear hB; have r0 := cell_alloc p0; have r1 := cell_alloc p1))
      go_ret
      exact ⟨rfl, by first | exact hA | exact hA.alloc hA.size _⟩
    · clear H2 H4 HG
      go_enter Try.func7, Try.ntmps7
      go_wp2_with (first
        | (go_at_call 11; refine (fixed_any _).mono ?_; rintro e w1 ⟨rfl, hB⟩; obtain ⟨p0, p1, hA⟩ := pos_cells hB; clear hB)
        | (go_at_call 17; clear TOK; refine (H1.out _).mono ?_; rintro e w2 ⟨rfl, hB⟩; replace p0 := pos_more' p0 hB (Nat.le_refl _); replace p1 := pos_more' p1 hB (Nat.le_refl _); replace hA := below_chain hA hB; clear hB)
        | (go_at_call 19; clear TOK2; refine (K2.out _).mono ?_; rintro e w3 ⟨rfl, hB⟩; obtain ⟨q0, q1, hB3⟩ := pos_cells hB; replace p0 := pos_more' p0 hB3 (Nat.le_refl _); replace p1 := pos_more' p1 hB3 (Nat.le_refl _); replace hA := below_chain hA hB3; clear hB hB3)
        | (go_at_call 19; refine (H3.out _).mono ?_; rintro e w4 ⟨rfl, hB⟩; replace p0 := pos_more' p0 hB (Nat.le_refl _); replace p1 := pos_more' p1 hB (Nat.le_refl _); replace hA := below_chain hA hB; clear hB))
      go_ret
      exact ⟨rfl, by first | exact hA | exact hA.alloc hA.size _⟩
  · rcases hoff with h0 | h0
    · have d1 : ¬ 0 ≤ off := by omega
      rcases HG.out with rfl | ⟨rfl, rfl⟩
      · have K4 := Lib.hid (H4.out rfl)
        clear H2 H4 HG h0
        go_enter Try.func7, Try.ntmps7
        go_wp2_with (first
          | (go_at_call 11; refine (fixed_any _).mono ?_; rintro e w1 ⟨rfl, hB⟩; obtain ⟨p0, p1, hA⟩ := pos_cells hB; clear hB)
          | (go_at_call 17; clear TOK; refine (H1.out _).mono ?_; rintro e w2 ⟨rfl, hB⟩; replace p0 := pos_more' p0 hB (Nat.le_refl _); replace p1 := pos_more' p1 hB (Nat.le_refl _); replace hA := below_chain hA hB; clear hB; have r0 := cell_alloc p0; have r1 := cell_alloc p1)
          | (go_at_call 19; refine (H3.out _).mono ?_; rintro e w4 ⟨rfl, hB⟩; obtain ⟨q0, q1, hB3⟩ := pos_cells hB; replace p0 := pos_more' p0 hB3 (Nat.le_refl _); replace p1 := pos_more' p1 hB3 (Nat.le_refl _); replace hA := below_chain hA hB3; clear hB hB3)
          | (go_at_call 17; refine (K4.out _).mono ?_; rintro e w5 ⟨rfl, hB⟩; replace p0 := pos_more' p0 hB (Nat.le_refl _); replace p1 := pos_more' p1 hB (Nat.le_refl _); replace hA := below_chain hA hB; clear hB; have r0 := cell_alloc p0; have r1 := cell_alloc p1))
        go_ret
        exact ⟨rfl, by first | exact hA | exact hA.alloc hA.size _⟩
      · clear H2 H4 HG h0
        go_enter Try.func7, Try.ntmps7
        go_wp2_with (first
          | (go_at_call 11; refine (fixed_any _).mono ?_; rintro e w1 ⟨rfl, hB⟩; obtain ⟨p0, p1, hA⟩ := pos_cells hB; clear hB)
          | (go_at_call 17; clear TOK; refine (H1.out _).mono ?_; rintro e w2 ⟨rfl, hB⟩; replace p0 := pos_more' p0 hB (Nat.le_refl _); replace p1 := pos_more' p1 hB (Nat.le_refl _); replace hA := below_chain hA hB; clear hB; have r0 := cell_alloc p0; have r1 := cell_alloc p1)
          | (go_at_call 19; refine (H3.out _).mono ?_; rintro e w4 ⟨rfl, hB⟩; obtain ⟨q0, q1, hB3⟩ := pos_cells hB; replace p0 := pos_more' p0 hB3 (Nat.le_refl _); replace p1 := pos_more' p1 hB3 (Nat.le_refl _); replace hA := below_chain hA hB3; clear hB hB3))
        go_ret
        exact ⟨rfl, by first | exact hA | exact hA.alloc hA.size _⟩
    · have d1 : ¬ off ≤ (s.size : Int) := by omega
      rcases HG.out with rfl | ⟨rfl, rfl⟩
      · have K4 := Lib.hid (H4.out rfl)
        clear H2 H4 HG
        go_enter Try.func7, Try.ntmps7
        go_wp2_with (first
          | (go_at_call 11; refine (fixed_any _).mono ?_; rintro e w1 ⟨rfl, hB⟩; obtain ⟨p0, p1, hA⟩ := pos_cells hB; clear hB)
          | (go_at_call 17; clear TOK; refine (H1.out _).mono ?_; rintro e w2 ⟨rfl, hB⟩; replace p0 := pos_more' p0 hB (Nat.le_refl _); replace p1 := pos_more' p1 hB (Nat.le_refl _); replace hA := below_chain hA hB; clear hB; have r0 := cell_alloc p0; have r1 := cell_alloc p1)
          | (go_at_call 19; refine (H3.out _).mono ?_; rintro e w4 ⟨rfl, hB⟩; obtain ⟨q0, q1, hB3⟩ := pos_cells hB; replace p0 := pos_more' p0 hB3 (Nat.le_refl _); replace p1 := pos_more' p1 hB3 (Nat.le_refl _); replace hA := below_chain hA hB3; clear hB hB3)
          | (go_at_call 17; refine (K4.out _).mono ?_; rintro e w5 ⟨rfl, hB⟩; replace p0 := pos_more' p0 hB (Nat.le_refl _); replace p1 := pos_more' p1 hB (Nat.le_refl _); replace hA := below_chain hA hB; clear hB; have r0 := cell_alloc p0; have r1 := cell_alloc p1))
        go_ret
        exact ⟨rfl, by first | exact hA | exact hA.alloc hA.size _⟩
      · clear H2 H4 HG
        go_enter Try.func7, Try.ntmps7
        go_wp2_with (first
          | (go_at_call 11; refine (fixed_any _).mono ?_; rintro e w1 ⟨rfl, hB⟩; obtain ⟨p0, p1, hA⟩ := pos_cells hB; clear hB)
          | (go_at_call 17; clear TOK; refine (H1.out _).mono ?_; rintro e w2 ⟨rfl, hB⟩; replace p0 := pos_more' p0 hB (Nat.le_refl _); replace p1 := pos_more' p1 hB (Nat.le_refl _); replace hA := below_chain hA hB; clear hB; have r0 := cell_alloc p0; have r1 := cell_alloc p1)
          | (go_at_call 19; refine (H3.out _).mono ?_; rintro e w4 ⟨rfl, hB⟩; obtain ⟨q0, q1, hB3⟩ := pos_cells hB; replace p0 := pos_more' p0 hB3 (Nat.le_refl _); replace p1 := pos_more' p1 hB3 (Nat.le_refl _); replace hA := below_chain hA hB3; clear hB hB3))
        go_ret
        exact ⟨rfl, by first | exact hA | exact hA.alloc hA.size _⟩

theorem linesBack_walk (s : ByteArray) (off line col : Int) (hs : s.size ≤ 1048576) (w : World) :
    Calls Try.prog 7 #[.string s, .int .i64 off, .agg #[.int .i64 line, .int .i64 col]] w fun e w' => e = .returned (.bool true) ∧ Below w.heap.size w w' := by
  refine back_in s off (atLine s off) (atCol s off) line col (offVal s line col) (offErr s line col) (atErr s off) (fun w => at_any s hs off w) (fun h w => ?_) (fun w => off_any s hs line col w) (fun h w => ?_) ?_ ?_ w
  · rcases at_err s off with ⟨_, h1, h2⟩ | h1
    · obtain ⟨k, rfl⟩ : ∃ k : Nat, off = (k : Int) := ⟨off.toNat, by omega⟩
      obtain ⟨e1, e2⟩ := place_back s k (by omega)
      have := off_any s hs (atLine s k) (atCol s k) w
      rw [e1, e2] at this
      exact this
    · rw [h1] at h; cases h
  · rcases off_two s line col with ⟨_, h1⟩ | ⟨h1, _⟩
    · obtain ⟨_, _, e3, e4, e5⟩ := pos_back s line col h1
      have := at_any s hs (offVal s line col) w
      rw [e3, e4, e5] at this
      exact this
    · rw [h1] at h; cases h
  · by_cases hc : 0 ≤ off ∧ off ≤ s.size
    · exact .inl (by unfold atErr; rw [if_pos hc])
    · exact .inr ⟨by unfold atErr; rw [if_neg hc], by omega⟩
  · rcases off_two s line col with ⟨h1, _⟩ | ⟨h1, h2⟩
    · exact .inl h1
    · exact .inr ⟨h1, h2⟩
end Go.Proofs.Ythbjiecckehckab
