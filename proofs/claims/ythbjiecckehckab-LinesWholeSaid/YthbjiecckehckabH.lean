/-
  Layer 4: contract of the document's Off.
-/
import Derived.Test.YthbjiecckehckabG
import Derived.Deep.RegionWith
namespace Go.Proofs.Ythbjiecckehckab
open Go.ChangeShapes Go.WideShapes Go.ChangeAt Go.RowKit

theorem pos_more {w w1 w2 : World} {l c : Int} (p0 : w1.cell? ⟨w.heap.size, 0, none⟩ = some (.int .i64 l)) (p1 : w1.cell? ⟨w.heap.size, 1, none⟩ = some (.int .i64 c)) (hB1 : Below w.heap.size w w1) (hB : Below w1.heap.size w1 w2) :
    w2.cell? ⟨w.heap.size, 0, none⟩ = some (.int .i64 l) ∧ w2.cell? ⟨w.heap.size, 1, none⟩ = some (.int .i64 c) ∧ Below w.heap.size w w2 := by
  refine ⟨?_, ?_, hB1.trans (hB.mono hB1.size)⟩
  · rw [hB.cell (p := ⟨w.heap.size, 0, none⟩) (cell_lt p0)]; exact p0
  · rw [hB.cell (p := ⟨w.heap.size, 1, none⟩) (cell_lt p1)]; exact p1

set_option maxHeartbeats 4000000 in
theorem roff_any (s : ByteArray) (hs : s.size ≤ 1048576) (line col : Int) (hcol : col ≤ 9223372036854775807) (w : World) :
    Calls Try.prog 20 #[.string s, .agg #[.int .i64 line, .int .i64 col]] w fun e w' => e = .returned (.tuple #[.int .i64 (offVal s line col), .int .i64 (offErr s line col)]) ∧ Below w.heap.size w w' := by
  have hsl := starts_len s
  by_cases hc : 1 ≤ line ∧ line ≤ (starts s).length
  · obtain ⟨i, rfl⟩ : ∃ i : Nat, line = ((i + 1 : Nat) : Int) := ⟨line.toNat - 1, by omega⟩
    have hi : i < (starts s).length := by omega
    have hsz := ext_size s i hi
    have hge := upto_ge s i hi
    have hfr : ∀ w v, Ns w v (starts s) → ∃ g cap, v = .slice (some ⟨g, 0, none⟩) (starts s).length cap ∧ g < w.heap.size ∧ w.cell? ⟨g, i, none⟩ = some (.int .i64 (from_ s i)) := by
      intro w v ⟨g, cap, e, h1, h2, h3, h4⟩
      exact ⟨g, cap, e, h3, h4 i _ (by simp [from_, List.getD, hi])⟩
    have HC := Lib.hid hfr
    clear hfr
    have hoff : ∀ col : Int, (1 ≤ col ∧ col ≤ (s.extract (from_ s i) (upto_ s i)).size + 1) ↔ mayOff s ((i + 1 : Nat) : Int) col := by
      intro col
      unfold mayOff
      rw [hsz]
      simp
      omega
    have ht : lineText s ((i + 1 : Nat) : Int) = s.extract (from_ s i) (upto_ s i) := by unfold lineText; rw [if_pos hc]; simp
    have hr : lineErr s ((i + 1 : Nat) : Int) = 0 := by unfold lineErr; rw [if_pos hc]
    have hcl := fun w => rline_any s hs ((i + 1 : Nat) : Int) w
    rw [ht, hr] at hcl
    clear ht hr
    rw [show ((i + 1 : Nat) : Int) = (i : Int) + 1 by omega] at hcl
    have HQ := Lib.hid hcl
    clear hcl
    by_cases hok : 1 ≤ col ∧ col ≤ (s.extract (from_ s i) (upto_ s i)).size + 1
    · obtain ⟨e1, e2⟩ := off_yes ((hoff col).1 hok)
      rw [show ((i + 1 : Nat) : Int).toNat - 1 = i by omega] at e1
      rw [e1, e2]
      clear e1 e2 hoff
      have k1 : ((s.extract (from_ s i) (upto_ s i)).size : Int) ≤ 1048576 := by omega
      generalize s.extract (from_ s i) (upto_ s i) = t at hok hsz HQ k1
      have hfs : from_ s i ≤ 1048576 := by omega
      generalize from_ s i = a at HC hsz hge hfs ⊢
      clear hsz hge
      generalize hm : (starts s).length = m at hi HC hsl
      clear hc hm
      have i2 : (i : Int) < (m : Int) := by omega
      have i3 : (i : Int) + 1 - 1 = i := by omega
      obtain ⟨o1, o2⟩ := hok
      have d1 : decide (col < 1) = false := by rw [decide_eq_false_iff_not]; omega
      have d2 : decide ((t.size : Int) < col - 1) = false := by rw [decide_eq_false_iff_not]; omega
      have w1' : IntKind.i64.wrap (i : Int) = i := by rw [IntKind.wrap_i64]; omega
      have w2' : IntKind.i64.wrap ((a : Int) + col) = (a : Int) + col := by rw [IntKind.wrap_i64]; omega
      have w3' : IntKind.i64.wrap ((a : Int) + col - 1) = (a : Int) + col - 1 := by rw [IntKind.wrap_i64]; omega
      have w4' : IntKind.i64.wrap (col - 1) = col - 1 := by rw [IntKind.wrap_i64]; omega
      go_enter Try.func20, Try.ntmps20
      go_wp2_with (first
        | (go_at_call 16; refine (HQ.out _).mono ?_; rintro e w1 ⟨rfl, hB⟩; obtain ⟨p0, p1, hB1⟩ := pos_cells hB; clear hB))
      go_region_with (go_at_call 13; refine (rstarts_any s hs _).mono ?_; rintro e w2 ⟨⟨v, rfl, hv⟩, hB⟩; obtain ⟨g, cap, rfl, q1, q2⟩ := HC.out _ _ hv; obtain ⟨p0', p1', hB1'⟩ := pos_more (w1 := w1.drew) p0 p1 hB1.drew hB; clear hv hB)
      all_goals go_wp2
      all_goals go_ret2
      all_goals exact ⟨rfl, hB1'⟩
    · obtain ⟨e1, e2⟩ := off_no (fun h => hok ((hoff col).2 h))
      rw [e1, e2]
      clear e1 e2 hoff
      have k1 : ((s.extract (from_ s i) (upto_ s i)).size : Int) ≤ 1048576 := by omega
      generalize s.extract (from_ s i) (upto_ s i) = t at hok hsz HQ k1
      clear hsz hge HC hi hc hsl
      by_cases o1 : col < 1
      · have d1 : decide (col < 1) = true := by rw [decide_eq_true_iff]; omega
        clear hok
        go_enter Try.func20, Try.ntmps20
        go_wp2_with (first
          | (go_at_call 16; refine (HQ.out _).mono ?_; rintro e w1 ⟨rfl, hB⟩; obtain ⟨p0, p1, hB1⟩ := pos_cells hB; clear hB))
        go_ret2
        exact ⟨rfl, hB1⟩
      · have o2 : (t.size : Int) + 1 < col := by omega
        clear hok
        have d1 : decide (col < 1) = false := by rw [decide_eq_false_iff_not]; omega
        have w4' : IntKind.i64.wrap (col - 1) = col - 1 := by rw [IntKind.wrap_i64]; omega
        have d2 : decide ((t.size : Int) < col - 1) = true := by rw [decide_eq_true_iff]; omega
        go_enter Try.func20, Try.ntmps20
        go_wp2_with (first
          | (go_at_call 16; refine (HQ.out _).mono ?_; rintro e w1 ⟨rfl, hB⟩; obtain ⟨p0, p1, hB1⟩ := pos_cells hB; clear hB))
        go_ret2
        exact ⟨rfl, hB1⟩
  · obtain ⟨e1, e2⟩ := off_no (s := s) (line := line) (col := col) (fun h => hc h.1)
    rw [e1, e2]
    clear e1 e2
    have ht : lineText s line = ⟨#[]⟩ := by unfold lineText; rw [if_neg hc]
    have hr : lineErr s line = 1 := by unfold lineErr; rw [if_neg hc]
    have hcl := fun w => rline_any s hs line w
    rw [ht, hr] at hcl
    clear ht hr
    have HQ := Lib.hid hcl
    clear hcl hc hsl
    go_enter Try.func20, Try.ntmps20
    go_wp2_with (first
      | (go_at_call 16; refine (HQ.out _).mono ?_; rintro e w1 ⟨rfl, hB⟩; obtain ⟨p0, p1, hB1⟩ := pos_cells hB; clear hB))
    go_ret2
    exact ⟨rfl, hB1⟩
end Go.Proofs.Ythbjiecckehckab
