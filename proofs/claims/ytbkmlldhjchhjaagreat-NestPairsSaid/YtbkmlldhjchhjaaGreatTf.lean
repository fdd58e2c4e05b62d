/-
  Layer 8: what ends a line: plain; contracts of semi.Ends, of the document's Ends, and of the closure that leaves out blanks and comments.
-/
import Derived.Test.YtbkmlldhjchhjaaGreatTc
namespace Go.Proofs.YtbkmlldhjchhjaaGreat
open Go.ChangeShapes Go.WideShapes Go.ChangeAt Go.RowKit

def endWords : List (List UInt8) := [[98, 114, 101, 97, 107], [99, 111, 110, 116, 105, 110, 117, 101], [102, 97, 108, 108, 116, 104, 114, 111, 117, 103, 104], [114, 101, 116, 117, 114, 110]]
def endSigns : List (List UInt8) := [[43, 43], [45, 45], [41], [93], [125]]
/-- may a token end a line? -/
def endsB (k : Nat) (x : List UInt8) : Bool := decide (k = 1 ∨ (3 ≤ k ∧ k ≤ 7)) || (decide (k = 2) && endWords.contains x) || (decide (k = 8) && endSigns.contains x)
theorem ends_yes {k : Nat} {x : List UInt8} (h : k = 1 ∨ (3 ≤ k ∧ k ≤ 7)) : endsB k x = true := by
  unfold endsB; rw [decide_eq_true h]; rfl
theorem ends_word {k : Nat} {x : List UInt8} (h : k = 2) : endsB k x = endWords.contains x := by
  subst h
  unfold endsB
  rw [decide_eq_false (by omega), decide_eq_true rfl, decide_eq_false (by decide)]; simp
theorem ends_sign {k : Nat} {x : List UInt8} (h : k = 8) : endsB k x = endSigns.contains x := by
  subst h
  unfold endsB
  rw [decide_eq_false (by omega), decide_eq_false (by decide), decide_eq_true rfl]; simp
theorem ends_no {k : Nat} {x : List UInt8} (h1 : ¬ (k = 1 ∨ (3 ≤ k ∧ k ≤ 7))) (h2 : k ≠ 2) (h8 : k ≠ 8) : endsB k x = false := by
  unfold endsB; rw [decide_eq_false h1, decide_eq_false h2, decide_eq_false h8]; rfl
theorem int_is {a : Nat} {b : Nat} (h : a = b) : ((a : Int) == (b : Int)) = true := by rw [h]; exact beq_self_eq_true _
theorem int_not {a : Nat} {b : Nat} (h : a ≠ b) : ((a : Int) == (b : Int)) = false := by
  rw [beq_eq_false_iff_ne]; omega
set_option maxHeartbeats 4000000 in
theorem ends_any (K : Nat) (x : ByteArray) (w : World) :
    Calls Tryz.prog 14 #[.int .u8 K, .string x] w fun e w' => e = .returned (.bool (endsB K x.data.toList)) ∧ w = w' := by
  by_cases hA : K = 1 ∨ (3 ≤ K ∧ K ≤ 7)
  · rw [ends_yes hA]
    have : K = 1 ∨ K = 3 ∨ K = 4 ∨ K = 5 ∨ K = 6 ∨ K = 7 := by omega
    clear hA
    rcases this with rfl | rfl | rfl | rfl | rfl | rfl
    all_goals
      go_enter Tryz.func14, Tryz.ntmps14
      go_wp2
      go_ret
      exact ⟨rfl, rfl⟩
  by_cases h2 : K = 2
  · rw [ends_word h2]
    subst h2
    clear hA
    go_enter Tryz.func14, Tryz.ntmps14
    go_wp2
    all_goals
      go_ret
      refine ⟨ret_bool ?_, rfl⟩
      rw [← ByteArray.toList_eq]
      unfold endWords
      simp only [List.contains_cons, List.contains_nil, *]
      first | rfl | (simp [Bool.or_assoc]; done) | simp_all
  by_cases h8 : K = 8
  · rw [ends_sign h8]
    subst h8
    clear hA h2
    go_enter Tryz.func14, Tryz.ntmps14
    go_wp2
    all_goals
      go_ret
      refine ⟨ret_bool ?_, rfl⟩
      rw [← ByteArray.toList_eq]
      unfold endSigns
      simp only [List.contains_cons, List.contains_nil, *]
      first | rfl | (simp [Bool.or_assoc]; done) | simp_all
  rw [ends_no hA h2 h8]
  have k1 : ((K : Int) == 1) = false := int_not (b := 1) (by omega)
  have k2 : ((K : Int) == 2) = false := int_not (b := 2) (by omega)
  have k3 : ((K : Int) == 3) = false := int_not (b := 3) (by omega)
  have k4 : ((K : Int) == 4) = false := int_not (b := 4) (by omega)
  have k5 : ((K : Int) == 5) = false := int_not (b := 5) (by omega)
  have k6 : ((K : Int) == 6) = false := int_not (b := 6) (by omega)
  have k7 : ((K : Int) == 7) = false := int_not (b := 7) (by omega)
  have k8 : ((K : Int) == 8) = false := int_not (b := 8) (by omega)
  clear hA h2 h8
  go_enter Tryz.func14, Tryz.ntmps14
  go_wp2
  go_ret
  exact ⟨rfl, rfl⟩
/-- blanks and comments -/
def silentB (k : Nat) : Bool := decide (k = 10 ∨ k = 11 ∨ k = 12)
set_option maxHeartbeats 4000000 in
theorem left_any (K : Nat) (y z : Int) (w : World) :
    Calls Tryz.prog 16 #[.agg #[.int .u8 K, .int .i64 y, .int .i64 z]] w fun e w' => e = .returned (.bool (!silentB K)) ∧ w' = w.alloc (.cells #[.int .u8 K, .int .i64 y, .int .i64 z] 40) := by
  by_cases h : K = 10 ∨ K = 11 ∨ K = 12
  · have hs : silentB K = true := decide_eq_true h
    rw [hs]
    clear hs
    rcases h with rfl | rfl | rfl
    all_goals
      go_enter Tryz.func16, Tryz.ntmps16
      go_wp2
      go_ret
      exact ⟨rfl, rfl⟩
  · have hs : silentB K = false := decide_eq_false h
    rw [hs]
    have k1 : ((K : Int) != 10) = true := by simp; omega
    have k2 : ((K : Int) != 11) = true := by simp; omega
    have k3 : ((K : Int) != 12) = true := by simp; omega
    clear hs h
    go_enter Tryz.func16, Tryz.ntmps16
    go_wp2
    go_ret
    exact ⟨rfl, rfl⟩
theorem info9e : (Tryz.prog.info? 9).map (fun i => (i.zero, i.size, i.bytes)) = some (some (.string ⟨#[]⟩), 1, 16) := by kernel_rfl
set_option maxRecDepth 100000 in
set_option maxHeartbeats 4000000 in
theorem rends_any (K : Nat) (x : ByteArray) (w : World) :
    Calls Tryz.prog 21 #[.int .u8 K, .string x] w fun e w' => e = .returned (.bool (endsB K x.data.toList)) ∧ Below w.heap.size w w' := by
  by_cases hA : K = 1 ∨ (3 ≤ K ∧ K ≤ 7)
  · rw [ends_yes hA]
    have : K = 1 ∨ K = 3 ∨ K = 4 ∨ K = 5 ∨ K = 6 ∨ K = 7 := by omega
    clear hA
    rcases this with rfl | rfl | rfl | rfl | rfl | rfl
    all_goals
      go_enter Tryz.func21, Tryz.ntmps21
      go_wp2
      go_ret
      exact ⟨rfl, Below.refl _ _⟩
  obtain ⟨i0, hi, hz0, hz1, _⟩ := info_parts info9e
  have HZ := Lib.hid hz1
  have hw1 : ¬ 4 * i0.size > 2 ^ 24 := by rw [hz1]; decide
  have hw2 : ¬ 4 * i0.size = 0 := by rw [hz1]; decide
  have hs1 : ¬ 5 * i0.size > 2 ^ 24 := by rw [hz1]; decide
  have hs2 : ¬ 5 * i0.size = 0 := by rw [hz1]; decide
  clear hz1
  by_cases h2 : K = 2
  · rw [ends_word h2]
    subst h2
    clear hA
    have hP := strs_new w 9 _ endWords rfl
    have hB : Below w.heap.size w (w.alloc (.cells (strCells endWords).toArray 9)) := (Below.refl _ w).alloc (Nat.le_refl _) _
    go_enter Tryz.func21, Tryz.ntmps21
    go_wp2_with (refine wpList_buildSlice rfl 52 9 4 _ rfl (strCells endWords).toArray i0 _ Tryz.underlying52 hi hz0 hw1 hw2 (by rw [HZ.out]; kernel_rfl) ?_; generalize w.alloc (.cells (strCells endWords).toArray 9) = W at hP hB ⊢)
    go_loopw [6] (fun i wr => ∃ k : Nat, k ≤ 4 ∧ i = .int .i64 k ∧ Hid (endWords.contains x.data.toList = (endWords.drop k).contains x.data.toList) ∧ wr = W) (fun i _ => 4 - (intOf i).toNat)
    case atStart => exact ⟨0, Nat.zero_le _, rfl, Lib.hid rfl, rfl⟩
    case round =>
      obtain ⟨k, hk, rfl, HW, rfl⟩ := hrel
      by_cases hlt : k < 4
      · obtain ⟨y, hy⟩ : ∃ y, endWords[k]? = some y := ⟨endWords[k]'hlt, List.getElem?_eq_getElem hlt⟩
        have hc1 := hP k y hy
        have HA := Lib.hid (contains_at endWords k y x.data.toList hy)
        have j1 : (k : Int) < 4 := by omega
        clear hy hP
        by_cases h1 : y = x.data.toList
        · have h2 : (y == x.toList) = true := by rw [ByteArray.toList_eq]; simp [h1]
          have H1 := Lib.hid h1
          clear h1
          go_wp2
          go_ret
          exact ⟨ret_bool (by rw [HW.out, HA.out, H1.out]; simp), hB⟩
        · have h2 : (y == x.toList) = false := by rw [ByteArray.toList_eq]; simp [h1]
          have H1 := Lib.hid h1
          clear h1
          go_wp2
          go_roundw
          case rel => exact ⟨k + 1, by omega, by go_num, Lib.hid (by rw [HW.out, HA.out]; simp [H1.out]), by simp⟩
          case measure => simp [intOf]; omega
      · obtain rfl : k = 4 := by omega
        go_wp2
        go_ret
        exact ⟨ret_bool (by rw [HW.out]; rfl), hB⟩
  by_cases h8 : K = 8
  · rw [ends_sign h8]
    subst h8
    clear hA h2
    have hP := strs_new w 9 _ endSigns rfl
    have hB : Below w.heap.size w (w.alloc (.cells (strCells endSigns).toArray 9)) := (Below.refl _ w).alloc (Nat.le_refl _) _
    go_enter Tryz.func21, Tryz.ntmps21
    go_wp2_with (refine wpList_buildSlice rfl 52 9 5 _ rfl (strCells endSigns).toArray i0 _ Tryz.underlying52 hi hz0 hs1 hs2 (by rw [HZ.out]; kernel_rfl) ?_; generalize w.alloc (.cells (strCells endSigns).toArray 9) = W at hP hB ⊢)
    go_loopw [6] (fun i wr => ∃ k : Nat, k ≤ 5 ∧ i = .int .i64 k ∧ Hid (endSigns.contains x.data.toList = (endSigns.drop k).contains x.data.toList) ∧ wr = W) (fun i _ => 5 - (intOf i).toNat)
    case atStart => exact ⟨0, Nat.zero_le _, rfl, Lib.hid rfl, rfl⟩
    case round =>
      obtain ⟨k, hk, rfl, HW, rfl⟩ := hrel
      by_cases hlt : k < 5
      · obtain ⟨y, hy⟩ : ∃ y, endSigns[k]? = some y := ⟨endSigns[k]'hlt, List.getElem?_eq_getElem hlt⟩
        have hc1 := hP k y hy
        have HA := Lib.hid (contains_at endSigns k y x.data.toList hy)
        have j1 : (k : Int) < 5 := by omega
        clear hy hP
        by_cases h1 : y = x.data.toList
        · have h2 : (y == x.toList) = true := by rw [ByteArray.toList_eq]; simp [h1]
          have H1 := Lib.hid h1
          clear h1
          go_wp2
          go_ret
          exact ⟨ret_bool (by rw [HW.out, HA.out, H1.out]; simp), hB⟩
        · have h2 : (y == x.toList) = false := by rw [ByteArray.toList_eq]; simp [h1]
          have H1 := Lib.hid h1
          clear h1
          go_wp2
          go_roundw
          case rel => exact ⟨k + 1, by omega, by go_num, Lib.hid (by rw [HW.out, HA.out]; simp [H1.out]), by simp⟩
          case measure => simp [intOf]; omega
      · obtain rfl : k = 5 := by omega
        go_wp2
        go_ret
        exact ⟨ret_bool (by rw [HW.out]; rfl), hB⟩
  rw [ends_no hA h2 h8]
  have k1 : ((K : Int) == 1) = false := int_not (b := 1) (by omega)
  have k2 : ((K : Int) == 2) = false := int_not (b := 2) (by omega)
  have k8 : ((K : Int) == 8) = false := int_not (b := 8) (by omega)
  have hc : K < 3 ∨ 7 < K := by omega
  rcases hc with hc | hc
  · have j1 : ¬ (3 : Int) ≤ K := by omega
    clear hA h2 h8
    go_enter Tryz.func21, Tryz.ntmps21
    go_wp2
    go_loopw [6] (fun i wr => i = .int .i64 0 ∧ wr = w) (fun _ _ => 0)
    case atStart => exact ⟨rfl, rfl⟩
    case round =>
      obtain ⟨rfl, rfl⟩ := hrel
      go_wp2
      go_ret
      exact ⟨rfl, Below.refl _ _⟩
  · have j1 : (3 : Int) ≤ K := by omega
    have j2 : ¬ (K : Int) ≤ 7 := by omega
    clear hA h2 h8
    go_enter Tryz.func21, Tryz.ntmps21
    go_wp2
    go_loopw [6] (fun i wr => i = .int .i64 0 ∧ wr = w) (fun _ _ => 0)
    case atStart => exact ⟨rfl, rfl⟩
    case round =>
      obtain ⟨rfl, rfl⟩ := hrel
      go_wp2
      go_ret
      exact ⟨rfl, Below.refl _ _⟩
end Go.Proofs.YtbkmlldhjchhjaaGreat
