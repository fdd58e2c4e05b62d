/-
  The statement RunesBehind walked.
-/
import Derived.Test.YtmlaefdfpekhcaaU
namespace Go.Proofs.Ytmlaefdfpekhcaa
open Go.ChangeShapes Go.WideShapes Go.ChangeAt Go.RowKit

set_option maxRecDepth 100000 in
set_option maxHeartbeats 4000000 in
theorem behind_good (s t : ByteArray) (xs ys : List Int) (hx : allChar xs) (hy : allChar ys) (hsx : s.data.toList = bytes xs) (hty : t.data.toList = bytes ys) (hst : s.size + t.size ≤ 1048576) (w : World) :
    Calls Try.prog 8 #[.string s, .string t] w fun e w' => e = .returned (.bool true) ∧ Below w.heap.size w w' := by
  have hxy : allChar (xs ++ ys) := by
    intro z hz
    rcases List.mem_append.1 hz with h | h
    · exact hx z h
    · exact hy z h
  have huxy : (s ++ t).data.toList = bytes (xs ++ ys) := by rw [bytes_append, ← hsx, ← hty]; simp
  have hsz : (s ++ t).size = s.size + t.size := ByteArray.size_append
  have ha := fun w => all_good s xs hx hsx (by omega) w
  have hb := fun w => all_good t ys hy hty (by omega) w
  obtain ⟨u, hu⟩ : ∃ u, u = s ++ t := ⟨_, rfl⟩
  rw [← hu] at huxy hsz
  have hc := fun w => all_good u (xs ++ ys) hxy huxy (by omega) w
  have hbn : badAt u.data.toList u.size 0 = -1 := by
    have := bad_none (xs ++ ys) [] u.size hxy
    rw [List.nil_append, List.length_nil, ← huxy] at this
    exact this
  have HBN := Lib.hid hbn
  have hs' : u.size ≤ maxLen := by unfold maxLen; omega
  have hlen : (xs ++ ys).length ≤ 1048576 := by
    have h1 := count_le (xs ++ ys) hxy
    have h2 : u.size = (bytes (xs ++ ys)).length := by rw [← huxy]; rfl
    omega
  rw [List.length_append] at hlen
  have hue : s ++ t = u := hu.symm
  obtain ⟨n, hn⟩ : ∃ n, n = xs.length := ⟨_, rfl⟩
  obtain ⟨m, hm⟩ : ∃ m, m = ys.length := ⟨_, rfl⟩
  rw [← hn, ← hm] at hlen
  have HNM := Lib.hid (And.intro hn hm)
  have hst1 : s.size ≤ 1048576 := by omega
  have hst2 : t.size ≤ 1048576 := by omega
  clear hsx hty huxy hbn hn hm hsz hu
  have hA : Below w.heap.size w w := Below.refl _ _
  go_enter Try.func8, Try.ntmps8
  go_wp2_with (first
    | (go_at_call 21; (with_reducible refine (ha _).mono ?_); rintro e w1 ⟨⟨v1, rfl, o1⟩, hB⟩; have r1 := reads_of o1; replace hA := below_chain hA hB; clear o1 hB)
    | (go_at_call 21; (with_reducible refine (hb _).mono ?_); rintro e w2 ⟨⟨v2, rfl, o2⟩, hB⟩; have r2 := reads_of o2; replace r1 := reads_below r1 hB; replace hA := below_chain hA hB; clear o2 hB)
    | (go_at_call 21; (with_reducible refine (hc _).mono ?_); rintro e w3 ⟨⟨v3, rfl, o3⟩, hB⟩; have r3 := reads_of o3; replace r1 := reads_below r1 hB; replace r2 := reads_below r2 hB; replace hA := below_chain hA hB; obtain ⟨a1, cap1, rfl, q1⟩ := r1; obtain ⟨a2, cap2, rfl, q2⟩ := r2; obtain ⟨a3, cap3, rfl, q3⟩ := r3; rw [List.length_append, ← HNM.out.1, ← HNM.out.2]; have HA3 := Lib.hid hA; clear o3 hB)
    | (go_at_call 17; refine (fixed1_any _).mono ?_; rintro e w4 ⟨rfl, hB⟩; have hB17 := hB; replace hA := below_chain hA hB; clear hB)
    | (go_at_call 23; (with_reducible refine (bad_any u _ hs').mono ?_); rintro e w5 ⟨rfl, hB⟩; rw [HBN.out]; replace hA := below_chain hA hB; have hB23 := below_chain hB17 hB; clear hB hB17))
  have hA3 : Below w.heap.size w w3 := HA3.out
  go_loopw [11] (fun i wr => ∃ k : Nat, k ≤ n + m ∧ i = .int .i64 k ∧ Below w3.heap.size w3 wr) (fun i _ => n + m - (intOf i).toNat)
  case atStart => exact ⟨0, by omega, rfl, hB23⟩
  case round =>
    obtain ⟨k, hk, rfl, hB⟩ := hrel
    by_cases hlt : k < n + m
    · by_cases h1 : k < n
      · obtain ⟨x, hxk⟩ : ∃ x, xs[k]? = some x := ⟨xs[k]'(by have := HNM.out.1; omega), List.getElem?_eq_getElem (by have := HNM.out.1; omega)⟩
        have hzk : (xs ++ ys)[k]? = some x := by rw [List.getElem?_append_left (by have := HNM.out.1; omega)]; exact hxk
        obtain ⟨g1, rfl, e1⟩ := q1 k x hxk
        obtain ⟨g3, rfl, e3⟩ := q3 k x hzk
        have c1 := (hB.cell (p := ⟨g1, k, none⟩) (cell_lt e1)).trans e1
        have c3 := (hB.cell (p := ⟨g3, k, none⟩) (cell_lt e3)).trans e3
        have i1 : (k : Int) < (n : Int) := by omega
        have i3 : (k : Int) < (n : Int) + (m : Int) := by omega
        have d1 : decide ((n : Int) ≤ (k : Int)) = false := by rw [decide_eq_false_iff_not]; omega
        have d2 : decide (n ≤ k) = false := by rw [decide_eq_false_iff_not]; omega
        clear q1 q2 q3 e1 e3 hxk hzk
        go_wp2
        go_quiet (fail)
        go_wp2
        go_roundw
        case rel => exact ⟨k + 1, by omega, by go_num, below_drewN hB _⟩
        case measure => simp [intOf]; omega
      · obtain ⟨j, hj⟩ : ∃ j, k = n + j := ⟨k - n, by omega⟩
        obtain ⟨y, hyk⟩ : ∃ y, ys[j]? = some y := ⟨ys[j]'(by have := HNM.out.2; omega), List.getElem?_eq_getElem (by have := HNM.out.2; omega)⟩
        have hzk : (xs ++ ys)[k]? = some y := by rw [hj, List.getElem?_append_right (by have := HNM.out.1; omega), ← HNM.out.1, Nat.add_sub_cancel_left]; exact hyk
        obtain ⟨g2, rfl, e2⟩ := q2 j y hyk
        obtain ⟨g3, rfl, e3⟩ := q3 k y hzk
        have c2 := (hB.cell (p := ⟨g2, j, none⟩) (cell_lt e2)).trans e2
        have c3 := (hB.cell (p := ⟨g3, k, none⟩) (cell_lt e3)).trans e3
        have i1 : decide ((k : Int) < (n : Int)) = false := by rw [decide_eq_false_iff_not]; omega
        have i4 : decide (k < n) = false := by rw [decide_eq_false_iff_not]; omega
        have i3 : (k : Int) < (n : Int) + (m : Int) := by omega
        have i2 : (j : Int) < (m : Int) := by omega
        have d1 : (n : Int) ≤ (k : Int) := by omega
        have d3 : IntKind.i64.wrap ((k : Int) - (n : Int)) = (j : Int) := by rw [IntKind.wrap_i64]; omega
        clear q1 q2 q3 e2 e3 hyk hzk hj
        go_wp2
        go_quiet (fail)
        go_wp2
        go_roundw
        case rel => exact ⟨k + 1, by omega, by go_num, below_drewN hB _⟩
        case measure => simp [intOf]; omega
    · go_wp2
      go_ret
      exact ⟨rfl, hA3.trans (hB.mono hA3.size)⟩
/-- what runes.All leaves of any text: some slice, and whether all are characters -/
def AllSome (b : Bool) (e : Ending) : Prop := ∃ v, e = .returned (.tuple #[v, .bool b])
theorem all_some (s : ByteArray) (hs : s.size ≤ 1048576) : ∃ b : Bool, (b = false → 0 ≤ badAt s.data.toList s.size 0) ∧ (b = true → ∃ xs, allChar xs ∧ s.data.toList = bytes xs) ∧
    ∀ w, Calls Try.prog 21 #[.string s] w fun e w' => AllSome b e ∧ Below w.heap.size w w' := by
  rcases text_cases s with ⟨xs, hx, he, _⟩ | hb
  · exact ⟨true, (fun h => by cases h), (fun _ => ⟨xs, hx, he⟩), fun w => (all_good s xs hx he hs w).mono fun e w' ⟨⟨v, h1, _⟩, h2⟩ => ⟨⟨v, h1⟩, h2⟩⟩
  · exact ⟨false, fun _ => hb, (fun h => by cases h), fun w => (all_bad s hs hb w).mono fun e w' ⟨h1, h2⟩ => ⟨⟨_, h1⟩, h2⟩⟩
set_option maxRecDepth 100000 in
set_option maxHeartbeats 4000000 in
theorem behind_bad (s t : ByteArray) (x y z : Bool) (bs bt : Int) (hs : s.size ≤ maxLen) (ht : t.size ≤ maxLen) (hst : s.size + t.size ≤ 1048576)
    (hx : ∀ w, Calls Try.prog 21 #[.string s] w fun e w' => AllSome x e ∧ Below w.heap.size w w')
    (hy : ∀ w, Calls Try.prog 21 #[.string t] w fun e w' => AllSome y e ∧ Below w.heap.size w w')
    (hz : ∀ w, Calls Try.prog 21 #[.string (s ++ t)] w fun e w' => AllSome z e ∧ Below w.heap.size w w')
    (HS : Hid (badAt s.data.toList s.size 0 = bs)) (HT : Hid (badAt t.data.toList t.size 0 = bt)) (hbs : x = false → 0 ≤ bs) (hbt : y = false → 0 ≤ bt) (hxy : (x && y) = false) (w : World) :
    Calls Try.prog 8 #[.string s, .string t] w fun e w' => e = .returned (.bool true) ∧ Below w.heap.size w w' := by
  have hA : Below w.heap.size w w := Below.refl _ _
  obtain ⟨u, hu⟩ : ∃ u, u = s ++ t := ⟨_, rfl⟩
  rw [← hu] at hz
  have hue : s ++ t = u := hu.symm
  clear hu
  cases x <;> cases y
  all_goals first
    | (simp at hxy; done)
    | (clear hxy
       first
         | (have b1 : 0 ≤ bs := hbs rfl; have b2 : 0 ≤ bt := hbt rfl; clear hbs hbt)
         | (have b1 : 0 ≤ bs := hbs rfl; clear hbs hbt)
         | (have b2 : 0 ≤ bt := hbt rfl; clear hbs hbt)
       go_enter Try.func8, Try.ntmps8
       go_wp2_with (first
         | (go_at_call 21; (with_reducible refine (hx _).mono ?_); rintro e w1 ⟨⟨v1, rfl⟩, hB⟩; replace hA := below_chain hA hB; clear hB)
         | (go_at_call 21; (with_reducible refine (hy _).mono ?_); rintro e w2 ⟨⟨v2, rfl⟩, hB⟩; replace hA := below_chain hA hB; clear hB)
         | (go_at_call 21; (with_reducible refine (hz _).mono ?_); rintro e w3 ⟨⟨v3, rfl⟩, hB⟩; replace hA := below_chain hA hB; clear hB)
         | (go_at_call 17; refine (fixed1_any _).mono ?_; rintro e w4 ⟨rfl, hB⟩; replace hA := below_chain hA hB; clear hB)
         | (go_at_call 23; (with_reducible refine (bad_any s _ hs).mono ?_); rintro e w5 ⟨rfl, hB⟩; rw [HS.out]; replace hA := below_chain hA hB; clear hB)
         | (go_at_call 23; (with_reducible refine (bad_any t _ ht).mono ?_); rintro e w6 ⟨rfl, hB⟩; rw [HT.out]; replace hA := below_chain hA hB; clear hB))
       go_ret
       exact ⟨rfl, hA⟩)
theorem runesBehind_walk (s t : ByteArray) (w0 : s.size ≤ maxLen) (w1 : t.size ≤ maxLen) (hst : s.size + t.size ≤ 1048576) (w : World) :
    Calls Try.prog 8 #[.string s, .string t] w fun e w' => e = .returned (.bool true) ∧ Below w.heap.size w w' := by
  obtain ⟨x, hx1, hx2, hx3⟩ := all_some s (by omega)
  obtain ⟨y, hy1, hy2, hy3⟩ := all_some t (by omega)
  obtain ⟨z, _, _, hz3⟩ := all_some (s ++ t) (by rw [ByteArray.size_append]; exact hst)
  cases hxy : (x && y) with
  | false => exact behind_bad s t x y z _ _ w0 w1 hst hx3 hy3 hz3 rfl rfl hx1 hy1 hxy w
  | true =>
    simp only [Bool.and_eq_true] at hxy
    obtain ⟨xs, hxs, he⟩ := hx2 hxy.1
    obtain ⟨ys, hys, hf⟩ := hy2 hxy.2
    exact behind_good s t xs ys hxs hys he hf hst w
end Go.Proofs.Ytmlaefdfpekhcaa
