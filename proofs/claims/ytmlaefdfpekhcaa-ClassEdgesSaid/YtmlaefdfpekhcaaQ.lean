/-
  The statement ClassEdges walked.
-/
import Derived.Test.YtmlaefdfpekhcaaN
import Derived.Test.YtmlaefdfpekhcaaK
namespace Go.Proofs.Ytmlaefdfpekhcaa
open Go.ChangeShapes Go.WideShapes Go.ChangeAt Go.RowKit

/-- what holds at both ends of each range -/
def edged (l : List (Int × Int)) : Bool :=
  l.all fun p => decide (0 ≤ p.1) && decide (p.1 ≤ p.2) && decide (p.2 ≤ 200000) && inside l p.1 && inside l p.2 && !inside l (p.1 - 1) && !inside l (p.2 + 1)
theorem edged_at {l : List (Int × Int)} (h : edged l = true) {k : Nat} {x y : Int} (hk : l[k]? = some (x, y)) :
    0 ≤ x ∧ x ≤ y ∧ y ≤ 200000 ∧ inside l x = true ∧ inside l y = true ∧ inside l (x - 1) = false ∧ inside l (y + 1) = false := by
  have := List.all_eq_true.1 h (x, y) (List.mem_of_getElem? hk)
  simp only [Bool.and_eq_true, decide_eq_true_eq, Bool.not_eq_true'] at this
  exact ⟨this.1.1.1.1.1.1, this.1.1.1.1.1.2, this.1.1.1.1.2, this.1.1.1.2, this.1.1.2, this.1.2, this.2⟩
theorem pairs_below {K : IntKind} {w w' : World} {b : Nat} {l : List (Int × Int)} (h : Pairs K w b l) {n : Nat} (hb : b < n) (hB : Below n w w') : Pairs K w' b l :=
  fun k x y hk => ⟨(hB.cell (p := ⟨b, k * 2, none⟩) hb).trans (h k x y hk).1, (hB.cell (p := ⟨b, k * 2 + 1, none⟩) hb).trans (h k x y hk).2⟩
theorem strs_below {w w' : World} {b : Nat} {l : List (List UInt8)} (h : Strs w b l) {n : Nat} (hb : b < n) (hB : Below n w w') : Strs w' b l :=
  fun k x hk => (hB.cell (p := ⟨b, k, none⟩) hb).trans (h k x hk)
theorem letter_yes {r : Int} {v : Bool} (h : inside letters r = v) (w : World) : Calls Try.prog 28 #[.int .i32 r] w fun e w' => e = .returned (.bool v) ∧ Below w.heap.size w w' := by
  have := letter_any r w; rw [h] at this; exact this
theorem digit_yes {r : Int} {v : Bool} (h : inside digits r = v) (w : World) : Calls Try.prog 30 #[.int .i32 r] w fun e w' => e = .returned (.bool v) ∧ Below w.heap.size w w' := by
  have := digit_any r w; rw [h] at this; exact this

/-- what holds of each word of the language -/
def worded : Bool := words.all fun x => isWord x && !isName x && isName (x ++ [95]) && decide (x.length ≤ 11)
theorem worded_at {k : Nat} {x : List UInt8} (hk : words[k]? = some x) : isWord x = true ∧ isName x = false ∧ isName (x ++ [95]) = true ∧ x.length ≤ 11 := by
  have := List.all_eq_true.1 (show worded = true by decide +kernel) x (List.mem_of_getElem? hk)
  simp only [Bool.and_eq_true, decide_eq_true_eq, Bool.not_eq_true'] at this
  exact ⟨this.1.1.1, this.1.1.2, this.1.2, this.2⟩
theorem word_yes {s : ByteArray} {v : Bool} (h : isWord s.data.toList = v) (w : World) : Calls Try.prog 38 #[.string s] w fun e w' => e = .returned (.bool v) ∧ w = w' := by
  have := word_any s w; rw [h] at this; exact this
theorem name_yes {s : ByteArray} {v : Bool} (hs : s.size ≤ maxLen) (h : isName s.data.toList = v) (w : World) : Calls Try.prog 36 #[.string s] w fun e w' => e = .returned (.bool v) ∧ Below w.heap.size w w' := by
  have := name_any s w hs; rw [h] at this; exact this

set_option maxRecDepth 100000 in
set_option maxHeartbeats 4000000 in
theorem classEdges_walk (w : World) :
    Calls Try.prog 14 #[] w fun e w' => e = .returned (.bool true) ∧ Below w.heap.size w w' := by
  obtain ⟨W1, hW1⟩ : ∃ W, W = w.alloc (.cells (pairCells .i64 letters).toArray 53) := ⟨_, rfl⟩
  have hP1 := pairs_new .i64 w 53 _ letters rfl
  have hB1 : Below w.heap.size w (w.alloc (.cells (pairCells .i64 letters).toArray 53)) := (Below.refl _ w).alloc (Nat.le_refl _) _
  have hs1 : w.heap.size < (w.alloc (.cells (pairCells .i64 letters).toArray 53)).heap.size := by simp
  rw [← hW1] at hP1 hB1 hs1
  have HW1 := Lib.hid hW1
  clear hW1
  go_enter Try.func14, Try.ntmps14
  go_wp2_with (first
    | (go_at_call 40; refine (rletters_any _).mono ?_; rintro e w' ⟨rfl, h0⟩; rw [← HW1.out] at h0; have h00 := h0.symm; subst h00))
  go_loopw [2] (fun i wr => ∃ k : Nat, k ≤ 33 ∧ i = .int .i64 k ∧ Below W1.heap.size W1 wr) (fun i _ => 33 - (intOf i).toNat)
  case atStart => exact ⟨0, by omega, rfl, Below.refl _ _⟩
  case round =>
    obtain ⟨k, hk, rfl, hB⟩ := hrel
    by_cases hlt : k < 33
    · obtain ⟨x, y, hxy⟩ : ∃ x y, letters[k]? = some (x, y) := ⟨(letters[k]'hlt).1, (letters[k]'hlt).2, List.getElem?_eq_getElem hlt⟩
      obtain ⟨e1, e2, e3, e4, e5, e6, e7⟩ := edged_at (show edged letters = true by decide +kernel) hxy
      have L1 := fun w => letter_yes e4 w
      have L2 := fun w => letter_yes e5 w
      have L3 := fun w => letter_yes e6 w
      have L4 := fun w => letter_yes e7 w
      clear e4 e5 e6 e7
      have hPr := pairs_below hP1 hs1 hB
      have hsr : w.heap.size < wr.heap.size := by have := hB.size; omega
      have c1 := (hPr k x y hxy).1
      have c2 := (hPr k x y hxy).2
      have HXY := Lib.hid hxy
      clear hxy
      go_wp2_with (first
        | (go_at_call 28; (with_reducible refine (L1 _).mono ?_); rintro e w1 ⟨rfl, hq1⟩; have hP2 := pairs_below hPr hsr hq1; have d1 := (hP2 k x y HXY.out).1; have d2 := (hP2 k x y HXY.out).2; have hs2 : w.heap.size < w1.heap.size := Nat.lt_of_lt_of_le hsr hq1.size)
        | (go_at_call 28; (with_reducible refine (L2 _).mono ?_); rintro e w2 ⟨rfl, hq2⟩; have hP3 := pairs_below hP2 hs2 hq2; have f1 := (hP3 k x y HXY.out).1; have f2 := (hP3 k x y HXY.out).2; have hs3 : w.heap.size < w2.heap.size := Nat.lt_of_lt_of_le hs2 hq2.size)
        | (go_at_call 28; (with_reducible refine (L3 _).mono ?_); rintro e w3 ⟨rfl, hq3⟩; have hP4 := pairs_below hP3 hs3 hq3; have g1 := (hP4 k x y HXY.out).1; have g2 := (hP4 k x y HXY.out).2; have hs4 : w.heap.size < w3.heap.size := Nat.lt_of_lt_of_le hs3 hq3.size)
        | (go_at_call 28; (with_reducible refine (L4 _).mono ?_); rintro e w4 ⟨rfl, hq4⟩))
      go_roundw
      case rel => exact ⟨k + 1, by omega, by go_num, hB.trans ((below_then (below_then (below_then hq1 hq2) hq3) hq4).mono hB.size)⟩
      case measure => simp [intOf]; omega
    · obtain rfl : k = 33 := by omega
      clear hk hlt hP1
      obtain ⟨wo, rfl⟩ : ∃ wo : World, wo = wr := ⟨_, rfl⟩
      obtain ⟨W2, hW2⟩ : ∃ W, W = wo.alloc (.cells (pairCells .i64 digits).toArray 53) := ⟨_, rfl⟩
      have hP2 := pairs_new .i64 wo 53 _ digits rfl
      have hB2 : Below wo.heap.size wo (wo.alloc (.cells (pairCells .i64 digits).toArray 53)) := (Below.refl _ wo).alloc (Nat.le_refl _) _
      have hs2 : wo.heap.size < (wo.alloc (.cells (pairCells .i64 digits).toArray 53)).heap.size := by simp
      rw [← hW2] at hP2 hB2 hs2
      have HW2 := Lib.hid hW2
      clear hW2
      have hBw := hB1.trans (hB.mono hB1.size)
      have hBw2 := below_then hBw hB2
      clear hB1 hs1 hB HW1 hB2 hBw
      go_wp2_with (first
        | (go_at_call 41; refine (rdigits_any _).mono ?_; rintro e w' ⟨rfl, h0⟩; rw [← HW2.out] at h0; have h00 := h0.symm; subst h00))
      go_loopw [4] (fun i ws => ∃ k : Nat, k ≤ 5 ∧ i = .int .i64 k ∧ Below W2.heap.size W2 ws) (fun i _ => 5 - (intOf i).toNat)
      case atStart => exact ⟨0, by omega, rfl, Below.refl _ _⟩
      case round =>
      obtain ⟨ws, rfl⟩ : ∃ ws : World, ws = wr := ⟨_, rfl⟩
      obtain ⟨k, hk, rfl, hB⟩ := hrel
      by_cases hlt : k < 5
      · obtain ⟨x, y, hxy⟩ : ∃ x y, digits[k]? = some (x, y) := ⟨(digits[k]'hlt).1, (digits[k]'hlt).2, List.getElem?_eq_getElem hlt⟩
        obtain ⟨e1, e2, e3, e4, e5, e6, e7⟩ := edged_at (show edged digits = true by decide +kernel) hxy
        have L1 := fun w => digit_yes e4 w
        have L2 := fun w => digit_yes e5 w
        have L3 := fun w => digit_yes e6 w
        have L4 := fun w => digit_yes e7 w
        clear e4 e5 e6 e7
        have hPr := pairs_below hP2 hs2 hB
        have hsr : wo.heap.size < ws.heap.size := by have := hB.size; omega
        have c1 := (hPr k x y hxy).1
        have c2 := (hPr k x y hxy).2
        have HXY := Lib.hid hxy
        clear hxy
        go_wp2_with (first
          | (go_at_call 30; (with_reducible refine (L1 _).mono ?_); rintro e w1 ⟨rfl, hq1⟩; have hP3 := pairs_below hPr hsr hq1; have d1 := (hP3 k x y HXY.out).1; have d2 := (hP3 k x y HXY.out).2; have hs3 : wo.heap.size < w1.heap.size := Nat.lt_of_lt_of_le hsr hq1.size)
          | (go_at_call 30; (with_reducible refine (L2 _).mono ?_); rintro e w2 ⟨rfl, hq2⟩; have hP4 := pairs_below hP3 hs3 hq2; have f1 := (hP4 k x y HXY.out).1; have f2 := (hP4 k x y HXY.out).2; have hs4 : wo.heap.size < w2.heap.size := Nat.lt_of_lt_of_le hs3 hq2.size)
          | (go_at_call 30; (with_reducible refine (L3 _).mono ?_); rintro e w3 ⟨rfl, hq3⟩; have hP5 := pairs_below hP4 hs4 hq3; have g1 := (hP5 k x y HXY.out).1; have g2 := (hP5 k x y HXY.out).2; have hs5 : wo.heap.size < w3.heap.size := Nat.lt_of_lt_of_le hs4 hq3.size)
          | (go_at_call 30; (with_reducible refine (L4 _).mono ?_); rintro e w4 ⟨rfl, hq4⟩))
        go_roundw
        case rel => exact ⟨k + 1, by omega, by go_num, hB.trans ((below_then (below_then (below_then hq1 hq2) hq3) hq4).mono hB.size)⟩
        case measure => simp [intOf]; omega
      · obtain rfl : k = 5 := by omega
        clear hk hlt hP2
        obtain ⟨W3, hW3⟩ : ∃ W, W = ws.alloc (.cells (strCells words).toArray 9) := ⟨_, rfl⟩
        have hP3 := strs_new ws 9 _ words rfl
        have hB3 : Below ws.heap.size ws (ws.alloc (.cells (strCells words).toArray 9)) := (Below.refl _ ws).alloc (Nat.le_refl _) _
        have hs3 : ws.heap.size < (ws.alloc (.cells (strCells words).toArray 9)).heap.size := by simp
        rw [← hW3] at hP3 hB3 hs3
        have HW3 := Lib.hid hW3
        clear hW3
        have hBs := hBw2.trans (hB.mono hBw2.size)
        have hBs3 := below_then hBs hB3
        clear hBw2 hs2 hB HW2 hB3 hBs
        go_wp2_with (first
          | (go_at_call 42; refine (rwords_any _).mono ?_; rintro e w' ⟨rfl, h0⟩; rw [← HW3.out] at h0; have h00 := h0.symm; subst h00))
        go_loopw [6] (fun i wt => ∃ k : Nat, k ≤ 25 ∧ i = .int .i64 k ∧ Below W3.heap.size W3 wt) (fun i _ => 25 - (intOf i).toNat)
        case atStart => exact ⟨0, by omega, rfl, Below.refl _ _⟩
        case round =>
        obtain ⟨wt, rfl⟩ : ∃ wt : World, wt = wr := ⟨_, rfl⟩
        obtain ⟨k, hk, rfl, hB⟩ := hrel
        by_cases hlt : k < 25
        · obtain ⟨x, hx⟩ : ∃ x, words[k]? = some x := ⟨words[k]'hlt, List.getElem?_eq_getElem hlt⟩
          obtain ⟨e1, e2, e3, e4⟩ := worded_at hx
          obtain ⟨s, hs⟩ : ∃ s : ByteArray, s = ⟨x.toArray⟩ := ⟨_, rfl⟩
          have hsl : s.data.toList = x := by rw [hs]
          have hsz : s.size = x.length := by rw [hs]; rfl
          have hsz1 : s.size ≤ maxLen := by rw [hsz]; unfold maxLen; omega
          have hsl2 : (s ++ ⟨#[95]⟩ : ByteArray).data.toList = x ++ [95] := by rw [hs]; simp
          have hsz2 : (s ++ ⟨#[95]⟩ : ByteArray).size ≤ maxLen := by
            have h8 : (⟨#[95]⟩ : ByteArray).size = 1 := rfl
            rw [ByteArray.size_append, h8, hsz]; unfold maxLen; omega
          have N1 := fun w => word_yes (s := s) (v := true) (by rw [hsl]; exact e1) w
          have N2 := fun w => name_yes (s := s) (v := false) hsz1 (by rw [hsl]; exact e2) w
          have N3 := fun w => name_yes (s := (s ++ ⟨#[95]⟩)) (v := true) hsz2 (by rw [hsl2]; exact e3) w
          have hx' : words[k]? = some x ∧ (Value.string ⟨x.toArray⟩ = Value.string s) := ⟨hx, by rw [hs]⟩
          have HX := Lib.hid hx'
          have hsb : s.size ≤ 11 := by omega
          clear hx hx' hs hsl hsz hsl2 e1 e2 e3 e4 hsz1 hsz2
          have hPr := strs_below hP3 hs3 hB
          have hsr : ws.heap.size < wt.heap.size := by have := hB.size; omega
          have c1 := (hPr k x HX.out.1).trans (congrArg some HX.out.2)
          go_wp2_with (first
            | (go_at_call 38; (with_reducible refine (N1 _).mono ?_); rintro e w1 ⟨rfl, rfl⟩)
            | (go_at_call 36; (with_reducible refine (N2 _).mono ?_); rintro e w2 ⟨rfl, hq2⟩; have hP4 := strs_below hPr hsr hq2; have d1 := (hP4 k x HX.out.1).trans (congrArg some HX.out.2))
            | (go_at_call 36; (with_reducible refine (N3 _).mono ?_); rintro e w3 ⟨rfl, hq3⟩))
          go_roundw
          case rel => exact ⟨k + 1, by omega, by go_num, hB.trans ((below_then hq2 hq3).mono hB.size)⟩
          case measure => simp [intOf]; omega
        · obtain rfl : k = 25 := by omega
          go_wp2_with (first
            | (go_at_call 27; refine (fixed2_any _).mono ?_; rintro e w9 ⟨rfl, hq9⟩))
          go_ret
          exact ⟨rfl, below_then (hBs3.trans (hB.mono hBs3.size)) hq9⟩
end Go.Proofs.Ytmlaefdfpekhcaa
