/-
  Layer 3: where places come to (plain lists).
-/
import Derived.Test.YtigmakdfladjnaaEa
namespace Go.Proofs.Ytigmakdfladjnaa
open Go.RowKit

/-- where a place comes to, or that it is not left -/
def goesTo (at' : Int) : Int → List Ed → Option Int
  | t, [] => some t
  | t, x :: l => if x.lo ≤ at' ∧ at' < x.hi then none else goesTo at' (if x.hi ≤ at' then t + gain' x else t) l
theorem movedTo_plain (n at' : Int) : ∀ (l : List Ed) (t e : Int), stands n e l = true → e ≤ n → -1000000 ≤ t - puts l - (n - e) → t + puts l + (n - e) ≤ 1000000 → movedTo at' t l = goesTo at' t l
  | [], _, _, _, _, _, _ => rfl
  | x :: l, t, e, h, he, h1, h2 => by
    unfold stands at h
    rw [Bool.and_eq_true, decide_eq_true_iff] at h
    simp only [puts] at h1 h2
    have hg : gain x = gain' x := by unfold gain gain' wrap64; omega
    have hw : wrap64 (t + gain' x) = t + gain' x := by unfold gain' wrap64; omega
    unfold movedTo goesTo
    rw [hg, hw]
    split
    · rfl
    · split
      · exact movedTo_plain n at' l _ x.hi h.2 h.1.2.2 (by unfold gain'; omega) (by unfold gain'; omega)
      · exact movedTo_plain n at' l _ x.hi h.2 h.1.2.2 (by omega) (by omega)
theorem goes_skip (n at' : Int) : ∀ (l : List Ed) (t e : Int), stands n e l = true → at' < e → goesTo at' t l = some t
  | [], _, _, _, _ => rfl
  | x :: l, t, e, h, he => by
    unfold stands at h
    rw [Bool.and_eq_true, decide_eq_true_iff] at h
    unfold goesTo
    rw [if_neg (by omega), if_neg (by omega)]
    exact goes_skip n at' l t x.hi h.2 (by omega)
theorem textOf_len (s : ByteArray) : ∀ (l : List Ed) (r : Nat), stands s.size r l = true → r ≤ s.size → ((textOf s.data.toList r l).length : Int) = s.size - r + gains l
  | [], r, _, h => by
    have hs : s.data.toList.length = s.size := rfl
    simp only [textOf, gains, List.length_drop]
    omega
  | x :: l, r, h, hr => by
    unfold stands at h
    rw [Bool.and_eq_true, decide_eq_true_iff] at h
    have hs : s.data.toList.length = s.size := rfl
    have ht : x.tx.data.toList.length = x.tx.size := rfl
    have hx : ((x.hi.toNat : Nat) : Int) = x.hi := by omega
    have ih := textOf_len s l x.hi.toNat (by rw [hx]; exact h.2) (by omega)
    simp only [textOf, gains, gain', List.length_append, List.length_take, List.length_drop]
    omega
/-- a place that is left has its byte where it comes to -/
theorem goes_byte (s : ByteArray) : ∀ (l : List Ed) (r : Nat) (m : Int) (P : List UInt8) (i : Nat) (z : Int), stands s.size r l = true → r ≤ s.size → (P.length : Int) = r + m → r ≤ i → i < s.size → goesTo i (i + m) l = some z →
    (P.length : Int) ≤ z ∧ z < (P ++ textOf s.data.toList r l).length ∧ (P ++ textOf s.data.toList r l)[z.toNat]? = s.data.toList[i]?
  | [], r, m, P, i, z, _, hr, hP, h1, h2, hz => by
    have hs : s.data.toList.length = s.size := rfl
    simp only [goesTo, Option.some.injEq] at hz
    subst hz
    simp only [textOf, List.length_append, List.length_drop]
    refine ⟨by omega, by omega, ?_⟩
    rw [List.getElem?_append_right (by omega), List.getElem?_drop]
    congr 1; omega
  | x :: l, r, m, P, i, z, hst, hr, hP, h1, h2, hz => by
    have hst0 := hst
    unfold stands at hst
    rw [Bool.and_eq_true, decide_eq_true_iff] at hst
    have hs : s.data.toList.length = s.size := rfl
    have ht : x.tx.data.toList.length = x.tx.size := rfl
    have hx : ((x.hi.toNat : Nat) : Int) = x.hi := by omega
    have hql : ((s.data.toList.drop r).take (x.lo.toNat - r)).length = x.lo.toNat - r := by rw [List.length_take, List.length_drop]; omega
    by_cases hlt : (i : Int) < x.lo
    · unfold goesTo at hz
      rw [if_neg (by omega), if_neg (by omega), goes_skip s.size i l _ x.hi hst.2 (by omega)] at hz
      simp only [Option.some.injEq] at hz
      subst hz
      simp only [textOf, List.length_append, hql]
      refine ⟨by omega, by omega, ?_⟩
      rw [List.getElem?_append_right (by omega), List.append_assoc, List.getElem?_append_left (by rw [hql]; omega), List.getElem?_take_of_lt (by omega), List.getElem?_drop]
      congr 1; omega
    · unfold goesTo at hz
      by_cases hin : x.lo ≤ i ∧ (i : Int) < x.hi
      · rw [if_pos hin] at hz; cases hz
      · rw [if_neg hin, if_pos (by omega)] at hz
        have hP2 : (((P ++ (s.data.toList.drop r).take (x.lo.toNat - r) ++ x.tx.data.toList).length : Nat) : Int) = (x.hi.toNat : Nat) + (m + gain' x) := by
          rw [List.length_append, List.length_append, hql, ht]; unfold gain'; omega
        have e : (i : Int) + m + gain' x = i + (m + gain' x) := by omega
        rw [e] at hz
        have ih := goes_byte s l x.hi.toNat (m + gain' x) _ i z (by rw [hx]; exact hst.2) (by omega) hP2 (by omega) h2 hz
        have e2 : P ++ textOf s.data.toList r (x :: l) = (P ++ (s.data.toList.drop r).take (x.lo.toNat - r) ++ x.tx.data.toList) ++ textOf s.data.toList x.hi.toNat l := by
          simp only [textOf, List.append_assoc]
        rw [e2]
        refine ⟨?_, ih.2.1, ih.2.2⟩
        have := ih.1
        rw [List.length_append, List.length_append] at this
        omega
/-- places that are left stay in order -/
theorem goes_order (s : ByteArray) : ∀ (l : List Ed) (r : Nat) (m : Int) (i j : Nat) (z y : Int), stands s.size r l = true → r ≤ s.size → 0 ≤ r + m → r ≤ i → i < j → j < s.size → goesTo i (i + m) l = some z → goesTo j (j + m) l = some y → z < y
  | [], r, m, i, j, z, y, _, _, _, _, h2, _, hz, hy => by
    simp only [goesTo, Option.some.injEq] at hz hy
    omega
  | x :: l, r, m, i, j, z, y, hst, hr, hm, h1, h2, h3, hz, hy => by
    unfold stands at hst
    rw [Bool.and_eq_true, decide_eq_true_iff] at hst
    have hx : ((x.hi.toNat : Nat) : Int) = x.hi := by omega
    unfold goesTo at hz hy
    by_cases hlt : (i : Int) < x.lo
    · rw [if_neg (by omega), if_neg (by omega), goes_skip s.size i l _ x.hi hst.2 (by omega)] at hz
      simp only [Option.some.injEq] at hz
      by_cases hlt2 : (j : Int) < x.lo
      · rw [if_neg (by omega), if_neg (by omega), goes_skip s.size j l _ x.hi hst.2 (by omega)] at hy
        simp only [Option.some.injEq] at hy
        omega
      · by_cases hin : x.lo ≤ j ∧ (j : Int) < x.hi
        · rw [if_pos hin] at hy; cases hy
        · rw [if_neg hin, if_pos (by omega)] at hy
          have e : (j : Int) + m + gain' x = j + (m + gain' x) := by omega
          rw [e] at hy
          obtain ⟨P, hP⟩ : ∃ P : List UInt8, (P.length : Int) = (x.hi.toNat : Nat) + (m + gain' x) := ⟨List.replicate ((x.hi.toNat : Int) + (m + gain' x)).toNat 0, by rw [List.length_replicate]; unfold gain'; omega⟩
          have := (goes_byte s l x.hi.toNat (m + gain' x) P j y (by rw [hx]; exact hst.2) (by omega) hP (by omega) h3 hy).1
          unfold gain' at hP
          omega
    · by_cases hin : x.lo ≤ i ∧ (i : Int) < x.hi
      · rw [if_pos hin] at hz; cases hz
      · have hin2 : ¬ (x.lo ≤ j ∧ (j : Int) < x.hi) := by omega
        rw [if_neg hin, if_pos (by omega)] at hz
        rw [if_neg hin2, if_pos (by omega)] at hy
        rw [show (i : Int) + m + gain' x = i + (m + gain' x) by omega] at hz
        rw [show (j : Int) + m + gain' x = j + (m + gain' x) by omega] at hy
        exact goes_order s l x.hi.toNat (m + gain' x) i j z y (by rw [hx]; exact hst.2) (by omega) (by unfold gain'; omega) (by omega) h2 h3 hz hy
/-- is a place left? -/
def left? (es : List Ed) (m : Int) (i : Nat) : Bool := (goesTo i (i + m) es).isSome
theorem countP_all {p : Nat → Bool} {l : List Nat} (h : ∀ x ∈ l, p x = true) : l.countP p = l.length := List.countP_eq_length.2 h
theorem countP_none {p : Nat → Bool} {l : List Nat} (h : ∀ x ∈ l, p x = false) : l.countP p = 0 := List.countP_eq_zero.2 (fun x hx => by rw [h x hx]; simp)
/-- how many are left -/
theorem left_count (s : ByteArray) : ∀ (l : List Ed) (r : Nat) (m : Int), stands s.size r l = true → r ≤ s.size → ((List.range' r (s.size - r)).countP (left? l m) : Int) + puts l = s.size - r + gains l
  | [], r, m, _, hr => by
    have hc : (List.range' r (s.size - r)).countP (left? [] m) = s.size - r := by rw [countP_all (p := left? [] m) (fun x _ => rfl), List.length_range']
    rw [hc]
    simp only [puts, gains]
    omega
  | x :: l, r, m, hst, hr => by
    unfold stands at hst
    rw [Bool.and_eq_true, decide_eq_true_iff] at hst
    have hx : ((x.hi.toNat : Nat) : Int) = x.hi := by omega
    have ih := left_count s l x.hi.toNat (m + gain' x) (by rw [hx]; exact hst.2) (by omega)
    have e1 : List.range' r (s.size - r) = List.range' r (x.lo.toNat - r) ++ (List.range' x.lo.toNat (x.hi.toNat - x.lo.toNat) ++ List.range' x.hi.toNat (s.size - x.hi.toNat)) := by
      rw [show x.hi.toNat = x.lo.toNat + (x.hi.toNat - x.lo.toNat) by omega]
      simp only [Nat.add_sub_cancel_left]
      rw [List.range'_append_1, show x.lo.toNat = r + (x.lo.toNat - r) by omega]
      simp only [Nat.add_sub_cancel_left]
      rw [List.range'_append_1]
      congr 1; omega
    have c1 : (List.range' r (x.lo.toNat - r)).countP (left? (x :: l) m) = x.lo.toNat - r := by
      rw [countP_all, List.length_range']
      intro i hi
      have := List.mem_range'_1.1 hi
      unfold left? goesTo
      rw [if_neg (by omega), if_neg (by omega), goes_skip s.size i l _ x.hi hst.2 (by omega)]
      rfl
    have c2 : (List.range' x.lo.toNat (x.hi.toNat - x.lo.toNat)).countP (left? (x :: l) m) = 0 := by
      refine countP_none fun i hi => ?_
      have := List.mem_range'_1.1 hi
      unfold left? goesTo
      rw [if_pos (by omega)]
      rfl
    have c3 : (List.range' x.hi.toNat (s.size - x.hi.toNat)).countP (left? (x :: l) m) = (List.range' x.hi.toNat (s.size - x.hi.toNat)).countP (left? l (m + gain' x)) := by
      refine List.countP_congr fun i hi => ?_
      have := List.mem_range'_1.1 hi
      unfold left?
      have : goesTo i (i + m) (x :: l) = goesTo i (i + (m + gain' x)) l := by
        rw [goesTo, if_neg (by omega), if_pos (by omega), show (i : Int) + m + gain' x = i + (m + gain' x) by omega]
      rw [this]
    rw [e1, List.countP_append, List.countP_append, c1, c2, c3]
    simp only [puts, gains]
    unfold gain' at ih ⊢
    omega
theorem goes_end (n : Int) : ∀ (l : List Ed) (e t : Int), stands n e l = true → goesTo n t l = some (t + gains l)
  | [], _, _, _ => by simp [goesTo, gains]
  | x :: l, e, t, h => by
    unfold stands at h
    rw [Bool.and_eq_true, decide_eq_true_iff] at h
    unfold goesTo
    rw [if_neg (by omega), if_pos (by omega), goes_end n l x.hi _ h.2]
    simp only [gains]
    congr 1; omega
end Go.Proofs.Ytigmakdfladjnaa
