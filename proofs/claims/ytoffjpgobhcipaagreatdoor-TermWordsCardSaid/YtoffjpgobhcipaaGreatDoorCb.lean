/-
  Texts E F G I J K of an earlier seat, under this one's numbers.
-/
import Derived.Test.YtoffjpgobhcipaaGreatDoorCa
import Derived.Great.BuildSlice
import Derived.Outline
set_option maxRecDepth 100000
/-
  Contracts of layer 2's functions and of the document's answers for them.
-/
namespace Go.Proofs.YtoffjpgobhcipaaGreatDoor
open Go.ChangeShapes Go.WideShapes Go.ChangeAt Go.RowKit

/-- the first range whose end is not below r decides -/
def within : List (Int × Int) → Int → Bool
  | [], _ => false
  | x :: l, r => if r ≤ x.2 then decide (x.1 ≤ r) else within l r
theorem within_at (l : List (Int × Int)) (k : Nat) (r x y : Int) (h : l[k]? = some (x, y)) : within (l.drop k) r = if r ≤ y then decide (x ≤ r) else within (l.drop (k + 1)) r := by
  obtain ⟨hk, he⟩ := List.getElem?_eq_some_iff.mp h
  rw [List.drop_eq_getElem_cons hk, he]; rfl
/-- a row of pairs of numbers in a block -/
def Pairs (K : IntKind) (w : World) (b : Nat) (l : List (Int × Int)) : Prop :=
  ∀ k x y, l[k]? = some (x, y) → w.cell? ⟨b, k * 2, none⟩ = some (.int K x) ∧ w.cell? ⟨b, k * 2 + 1, none⟩ = some (.int K y)
set_option maxHeartbeats 400000 in
theorem within_any (r : Int) (b n : Nat) (l : List (Int × Int)) (w : World) (hb : b < w.heap.size) (hl : l.length = n) (hn : n ≤ 100) (hc : Pairs .i32 w b l) :
    Calls Tryz.prog 88 #[.int .i32 r, .slice (some ⟨b, 0, none⟩) n n] w fun e w' => e = .returned (.bool (within l r)) ∧ Below w.heap.size w w' := by
  subst hl
  go_enter Tryz.func88, Tryz.ntmps88
  go_wp2
  go_loopw [9] (fun i wr => ∃ k : Nat, k ≤ l.length ∧ i = .int .i64 k ∧ Below w.heap.size w wr ∧ Hid (within l r = within (l.drop k) r)) (fun i _ => l.length - (intOf i).toNat)
  case atStart => exact ⟨0, Nat.zero_le _, rfl, Below.refl _ _, Lib.hid (by simp)⟩
  case round =>
    obtain ⟨k, hk, rfl, hB, HW⟩ := hrel
    by_cases hlt : k < l.length
    · obtain ⟨x, y, hxy⟩ : ∃ x y, l[k]? = some (x, y) := ⟨l[k].1, l[k].2, by rw [List.getElem?_eq_getElem hlt]⟩
      have hc1 := (hB.cell (p := ⟨b, k * 2, none⟩) hb).trans (hc k x y hxy).1
      have hc2 := (hB.cell (p := ⟨b, k * 2 + 1, none⟩) hb).trans (hc k x y hxy).2
      have HA := Lib.hid (within_at l k r x y hxy)
      have hs := hB.size
      clear hxy hc
      go_wp2
      · have h1 : r ≤ y := by assumption
        go_ret
        exact ⟨ret_bool (by rw [HW.out, HA.out, if_pos h1]), hB.alloc hs _⟩
      · have h1 : ¬ r ≤ y := by omega
        go_roundw
        case rel => exact ⟨k + 1, by omega, by go_num, hB.alloc hs _, Lib.hid (by rw [HW.out, HA.out, if_neg h1])⟩
        case measure => simp [intOf]; omega
    · go_wp2
      go_ret
      exact ⟨ret_bool (by rw [HW.out, List.drop_of_length_le (by omega)]; rfl), hB⟩
/-- some range holds r -/
def inside : List (Int × Int) → Int → Bool
  | [], _ => false
  | x :: l, r => (decide (x.1 ≤ r ∧ r ≤ x.2)) || inside l r
theorem inside_at (l : List (Int × Int)) (k : Nat) (r x y : Int) (h : l[k]? = some (x, y)) : inside (l.drop k) r = (decide (x ≤ r ∧ r ≤ y) || inside (l.drop (k + 1)) r) := by
  obtain ⟨hk, he⟩ := List.getElem?_eq_some_iff.mp h
  rw [List.drop_eq_getElem_cons hk, he]; rfl
set_option maxHeartbeats 400000 in
theorem in_any (r : Int) (b n : Nat) (l : List (Int × Int)) (w : World) (hl : l.length = n) (hn : n ≤ 100) (hc : Pairs .i64 w b l) :
    Calls Tryz.prog 94 #[.int .i64 r, .slice (some ⟨b, 0, none⟩) n n] w fun e w' => e = .returned (.bool (inside l r)) ∧ w = w' := by
  subst hl
  go_enter Tryz.func94, Tryz.ntmps94
  go_wp2
  go_loop [5] (fun i => ∃ k : Nat, k ≤ l.length ∧ i = .int .i64 k ∧ Hid (inside l r = inside (l.drop k) r)) (fun i => l.length - (intOf i).toNat)
  case atStart => exact ⟨0, Nat.zero_le _, rfl, Lib.hid (by simp)⟩
  case round =>
    obtain ⟨k, hk, rfl, HW⟩ := hrel
    by_cases hlt : k < l.length
    · obtain ⟨x, y, hxy⟩ : ∃ x y, l[k]? = some (x, y) := ⟨l[k].1, l[k].2, by rw [List.getElem?_eq_getElem hlt]⟩
      have hc1 := (hc k x y hxy).1
      have hc2 := (hc k x y hxy).2
      have HA := Lib.hid (inside_at l k r x y hxy)
      clear hxy hc
      by_cases h1 : x ≤ r
      · by_cases h2 : r ≤ y
        · go_wp2
          go_ret
          exact ⟨ret_bool (by rw [HW.out, HA.out]; simp [h1, h2]), rfl⟩
        · go_wp2
          go_round
          case rel => exact ⟨k + 1, by omega, by go_num, Lib.hid (by rw [HW.out, HA.out]; simp [h2])⟩
          case measure => simp [intOf]; omega
      · go_wp2
        go_round
        case rel => exact ⟨k + 1, by omega, by go_num, Lib.hid (by rw [HW.out, HA.out]; simp [h1])⟩
        case measure => simp [intOf]; omega
    · go_wp2
      go_ret
      exact ⟨ret_bool (by rw [HW.out, List.drop_of_length_le (by omega)]; rfl), rfl⟩

/-! ### the tables -/
def letters : List (Int × Int) :=
  [(0x41, 0x5A), (0x5F, 0x5F), (0x61, 0x7A), (0xAA, 0xAA), (0xB5, 0xB5), (0xBA, 0xBA),
    (0xC0, 0xD6), (0xD8, 0xF6), (0xF8, 0x2C1), (0x370, 0x373), (0x376, 0x377), (0x37B, 0x37D),
    (0x386, 0x386), (0x388, 0x38A), (0x38C, 0x38C), (0x38E, 0x3A1), (0x3A3, 0x3F5), (0x400, 0x481),
    (0x48A, 0x52F), (0x531, 0x556), (0x561, 0x587), (0x5D0, 0x5EA), (0x620, 0x64A), (0x904, 0x939),
    (0xE01, 0xE30), (0x10A0, 0x10C5), (0x1E00, 0x1F15), (0x3041, 0x3096), (0x30A1, 0x30FA),
    (0x4E00, 0x9FFF), (0xAC00, 0xD7A3), (0x10400, 0x1044F), (0x20000, 0x2A6DF)]
def digits : List (Int × Int) := [(0x30, 0x39), (0x660, 0x669), (0x966, 0x96F), (0xE50, 0xE59), (0xFF10, 0xFF19)]
/-- each range lies above the one ahead of it -/
def rises : Int → List (Int × Int) → Bool
  | _, [] => true
  | a, x :: l => decide (a < x.1) && decide (x.1 ≤ x.2) && rises x.2 l
theorem inside_low : ∀ (l : List (Int × Int)) (a r : Int), rises a l = true → r ≤ a → inside l r = false
  | [], _, _, _, _ => rfl
  | x :: l, a, r, h, hr => by
    simp only [rises, Bool.and_eq_true, decide_eq_true_eq] at h
    unfold inside
    rw [inside_low l x.2 r h.2 (by omega), Bool.or_false, decide_eq_false_iff_not]
    omega
theorem within_inside : ∀ (l : List (Int × Int)) (a r : Int), rises a l = true → within l r = inside l r
  | [], _, _, _ => rfl
  | x :: l, a, r, h => by
    simp only [rises, Bool.and_eq_true, decide_eq_true_eq] at h
    unfold within inside
    by_cases hx : r ≤ x.2
    · rw [if_pos hx, inside_low l x.2 r h.2 hx, Bool.or_false]
      rw [Bool.eq_iff_iff, decide_eq_true_eq, decide_eq_true_eq]; omega
    · rw [if_neg hx, within_inside l x.2 r h.2]
      have : decide (x.1 ≤ r ∧ r ≤ x.2) = false := by rw [decide_eq_false_iff_not]; omega
      rw [this, Bool.false_or]

/-- the cells of a row of pairs -/
def pairCells (K : IntKind) (l : List (Int × Int)) : List Value := l.flatMap fun x => [.int K x.1, .int K x.2]
theorem pairCells_at (K : IntKind) : ∀ (l : List (Int × Int)) (k : Nat) (x y : Int), l[k]? = some (x, y) → (pairCells K l)[k * 2]? = some (.int K x) ∧ (pairCells K l)[k * 2 + 1]? = some (.int K y)
  | [], _, _, _, h => by simp at h
  | a :: l, 0, x, y, h => by
    simp at h; subst h; simp [pairCells]
  | a :: l, k + 1, x, y, h => by
    have := pairCells_at K l k x y (by simpa using h)
    simpa [pairCells, Nat.add_mul, Nat.add_assoc] using this
theorem pairs_new (K : IntKind) (w : World) (t : TypeId) (c : Array Value) (l : List (Int × Int)) (hc : c = (pairCells K l).toArray) : Pairs K (w.alloc (.cells c t)) w.heap.size l := by
  subst hc
  intro k x y h
  obtain ⟨h1, h2⟩ := pairCells_at K l k x y h
  have hh : (w.alloc (.cells (pairCells K l).toArray t)).heap[w.heap.size]? = some (.cells (pairCells K l).toArray t) := by
    show (w.heap.push _)[w.heap.size]? = _
    simp
  constructor
  · unfold World.cell?; simp only [hh]; simp [h1]
  · unfold World.cell?; simp only [hh]; simp [h2]

theorem digit_any (r : Int) (w : World) :
    Calls Tryz.prog 71 #[.int .i32 r] w fun e w' => e = .returned (.bool (inside digits r)) ∧ Below w.heap.size w w' := by
  go_enter Tryz.func71, Tryz.ntmps71
  go_wp2_with (go_at_call 88; refine (within_any r _ 5 digits _ (by simp) rfl (by decide) (pairs_new _ _ _ _ _ (by rfl))).mono ?_; rintro e w' ⟨rfl, hB⟩)
  go_ret
  exact ⟨ret_bool (within_inside digits (-1) r (by decide)), ((Below.refl _ w).alloc (Nat.le_refl _) _).trans (hB.mono (by simp))⟩
end Go.Proofs.YtoffjpgobhcipaaGreatDoor

/-
  Contracts of class.Letter and of the document's Letters and Letter: the tables as they lie in memory.
-/
namespace Go.Proofs.YtoffjpgobhcipaaGreatDoor
open Go.ChangeShapes Go.WideShapes Go.ChangeAt Go.RowKit

theorem heap_new (w : World) (c : Array Value) (t : TypeId) : (w.alloc (.cells c t)).heap[w.heap.size]? = some (.cells c t (0, 0)) := by
  show (w.heap.push _)[w.heap.size]? = _
  simp
theorem setRow_new (w : World) (c d : Array Value) (t : TypeId) : (w.alloc (.cells c t)).setRow w.heap.size d = w.alloc (.cells d t) := by
  unfold World.setRow
  show ({ w with heap := (w.heap.push (Obj.cells c t)).modify w.heap.size _ } : World) = { w with heap := w.heap.push (Obj.cells d t) }
  congr 1
  apply Array.ext
  · simp
  · intro i h1 h2
    simp only [Array.getElem_modify, Array.getElem_push]
    by_cases hi : w.heap.size = i
    · subst hi; simp
    · have : i < w.heap.size := by simp at h2; omega
      simp [hi, this]
set_option maxRecDepth 100000 in
theorem zero68 (w : World) : (zeroValue 112).run Tryz.prog w = .ok (.agg (Array.replicate 66 (.int .i32 0))) w := by kernel_rfl

set_option maxRecDepth 100000 in
set_option maxHeartbeats 4000000 in
theorem letter_any (r : Int) (w : World) :
    Calls Tryz.prog 70 #[.int .i32 r] w fun e w' => e = .returned (.bool (inside letters r)) ∧ Below w.heap.size w w' := by
  have hz := zero68
  have hB0 : Below w.heap.size w (w.alloc (.cells (pairCells .i32 letters).toArray 112)) := (Below.refl _ w).alloc (Nat.le_refl _) _
  have hP0 := pairs_new .i32 w 112 _ letters rfl
  rw [← setRow_new w (Array.replicate 66 (.int .i32 0))] at hB0 hP0
  go_enter Tryz.func70, Tryz.ntmps70
  go_wp2_with (first
    | (refine wpList_buildTo rfl 112 _ rfl (some 37) rfl (pairCells .i32 letters).toArray (by kernel_rfl) ?_)
    | (refine wpList_store_rowTo rfl 112 (.tmp 3) (.tmp 37) rfl rfl w.heap.size (pairCells .i32 letters).toArray rfl rfl 112 (Array.replicate 66 (.int .i32 0)) (heap_new _ _ _) (by kernel_rfl) (by kernel_rfl) (by kernel_rfl) ?_)
    | (go_at_call 88; refine (within_any r _ 33 letters _ (by simp) rfl (by decide) hP0).mono ?_; rintro e w' ⟨rfl, hB⟩))
  go_ret
  exact ⟨ret_bool (within_inside letters (-1) r (by decide)), hB0.trans (hB.mono hB0.size)⟩
end Go.Proofs.YtoffjpgobhcipaaGreatDoor

/-
  Contracts of the document's Letters, Letter, Digits and Digit: the tables as they lie in memory.
-/
namespace Go.Proofs.YtoffjpgobhcipaaGreatDoor
open Go.ChangeShapes Go.WideShapes Go.ChangeAt Go.RowKit

theorem info53 : (Tryz.prog.info? 144).map (fun i => (i.zero, i.size, i.bytes)) = some (some (.agg #[.int .i64 0, .int .i64 0]), 2, 16) := by kernel_rfl
set_option maxRecDepth 100000 in
set_option maxHeartbeats 4000000 in
theorem rletters_any (w : World) :
    Calls Tryz.prog 95 #[] w fun e w' => e = .returned (.slice (some ⟨w.heap.size, 0, none⟩) 33 33) ∧ w' = w.alloc (.cells (pairCells .i64 letters).toArray 144) := by
  obtain ⟨i0, hi, hz0, hz1, _⟩ := info_parts info53
  have hs1 : ¬ 33 * i0.size > 2 ^ 24 := by rw [hz1]; decide
  have hs2 : ¬ 33 * i0.size = 0 := by rw [hz1]; decide
  have HZ := Lib.hid hz1
  clear hz1
  go_enter Tryz.func95, Tryz.ntmps95
  go_wp2_with (first
    | (refine wpList_buildSlice rfl 122 144 33 _ rfl (pairCells .i64 letters).toArray i0 _ Tryz.underlying122 hi hz0 hs1 hs2 (by rw [HZ.out]; kernel_rfl) ?_))
  go_ret
  exact ⟨rfl, rfl⟩
set_option maxRecDepth 100000 in
theorem rdigits_any (w : World) :
    Calls Tryz.prog 96 #[] w fun e w' => e = .returned (.slice (some ⟨w.heap.size, 0, none⟩) 5 5) ∧ w' = w.alloc (.cells (pairCells .i64 digits).toArray 144) := by
  go_enter Tryz.func96, Tryz.ntmps96
  go_wp2
  go_ret
  exact ⟨rfl, rfl⟩
theorem rletter_any (r : Int) (w : World) :
    Calls Tryz.prog 75 #[.int .i64 r] w fun e w' => e = .returned (.bool (inside letters r)) ∧ Below w.heap.size w w' := by
  have hP := pairs_new .i64 w 144 _ letters rfl
  have hB : Below w.heap.size w (w.alloc (.cells (pairCells .i64 letters).toArray 144)) := (Below.refl _ w).alloc (Nat.le_refl _) _
  go_enter Tryz.func75, Tryz.ntmps75
  go_wp2_with (first
    | (go_at_call 95; refine (rletters_any _).mono ?_; rintro e w' ⟨rfl, rfl⟩)
    | (go_at_call 94; refine (in_any r _ 33 letters _ rfl (by decide) hP).mono ?_; rintro e w' ⟨rfl, rfl⟩))
  go_ret
  exact ⟨rfl, hB⟩
theorem rdigit_any (r : Int) (w : World) :
    Calls Tryz.prog 76 #[.int .i64 r] w fun e w' => e = .returned (.bool (inside digits r)) ∧ Below w.heap.size w w' := by
  have hP := pairs_new .i64 w 144 _ digits rfl
  have hB : Below w.heap.size w (w.alloc (.cells (pairCells .i64 digits).toArray 144)) := (Below.refl _ w).alloc (Nat.le_refl _) _
  go_enter Tryz.func76, Tryz.ntmps76
  go_wp2_with (first
    | (go_at_call 96; refine (rdigits_any _).mono ?_; rintro e w' ⟨rfl, rfl⟩)
    | (go_at_call 94; refine (in_any r _ 5 digits _ rfl (by decide) hP).mono ?_; rintro e w' ⟨rfl, rfl⟩))
  go_ret
  exact ⟨rfl, hB⟩
end Go.Proofs.YtoffjpgobhcipaaGreatDoor

/-
  Contracts of class.Base, class.Word and of the document's Base, Words and Word.
-/
namespace Go.Proofs.YtoffjpgobhcipaaGreatDoor
open Go.ChangeShapes Go.WideShapes Go.ChangeAt Go.RowKit

/-- what a digit of base 16 says; -1 -/
def hexOf (r : Int) : Int := if 48 ≤ r ∧ r ≤ 57 then r - 48 else if 65 ≤ r ∧ r ≤ 70 then r - 55 else if 97 ≤ r ∧ r ≤ 102 then r - 87 else -1
theorem base_any (r : Int) (w : World) :
    Calls Tryz.prog 149 #[.int .i32 r] w fun e w' => e = .returned (.int .i64 (hexOf r)) ∧ w = w' := by
  by_cases h1 : 48 ≤ r ∧ r ≤ 57
  · obtain ⟨a, b⟩ := h1
    go_enter Tryz.func149, Tryz.ntmps149
    go_wp2
    go_ret
    exact ⟨ret_int (by unfold hexOf; rw [if_pos ⟨a, b⟩]), rfl⟩
  · by_cases h2 : 65 ≤ r ∧ r ≤ 70
    · obtain ⟨a, b⟩ := h2
      go_enter Tryz.func149, Tryz.ntmps149
      go_wp2
      go_ret
      exact ⟨ret_int (by unfold hexOf; rw [if_neg (by omega), if_pos ⟨a, b⟩]; omega), rfl⟩
    · by_cases h3 : 97 ≤ r ∧ r ≤ 102
      · obtain ⟨a, b⟩ := h3
        go_enter Tryz.func149, Tryz.ntmps149
        go_wp2
        go_ret
        exact ⟨ret_int (by unfold hexOf; rw [if_neg (by omega), if_neg (by omega), if_pos ⟨a, b⟩]; omega), rfl⟩
      · go_enter Tryz.func149, Tryz.ntmps149
        go_wp2
        all_goals
          go_ret
          exact ⟨ret_int (by unfold hexOf; rw [if_neg (by omega), if_neg (by omega), if_neg (by omega)]), rfl⟩
/-- the language's words -/
def words : List (List UInt8) :=
  [
    [98, 114, 101, 97, 107],
    [99, 97, 115, 101],
    [99, 104, 97, 110],
    [99, 111, 110, 115, 116],
    [99, 111, 110, 116, 105, 110, 117, 101],
    [100, 101, 102, 97, 117, 108, 116],
    [100, 101, 102, 101, 114],
    [101, 108, 115, 101],
    [102, 97, 108, 108, 116, 104, 114, 111, 117, 103, 104],
    [102, 111, 114],
    [102, 117, 110, 99],
    [103, 111],
    [103, 111, 116, 111],
    [105, 102],
    [105, 109, 112, 111, 114, 116],
    [105, 110, 116, 101, 114, 102, 97, 99, 101],
    [109, 97, 112],
    [112, 97, 99, 107, 97, 103, 101],
    [114, 97, 110, 103, 101],
    [114, 101, 116, 117, 114, 110],
    [115, 101, 108, 101, 99, 116],
    [115, 116, 114, 117, 99, 116],
    [115, 119, 105, 116, 99, 104],
    [116, 121, 112, 101],
    [118, 97, 114]]
def isWord (l : List UInt8) : Bool := words.contains l
theorem word_any (s : ByteArray) (w : World) :
    Calls Tryz.prog 68 #[.string s] w fun e w' => e = .returned (.bool (isWord s.data.toList)) ∧ w = w' := by
  go_enter Tryz.func68, Tryz.ntmps68
  go_wp2
  all_goals
    go_ret
    refine ⟨ret_bool ?_, rfl⟩
    rw [← ByteArray.toList_eq]
    unfold isWord words
    simp only [List.contains_cons, List.contains_nil, *]
    first | rfl | simp_all
end Go.Proofs.YtoffjpgobhcipaaGreatDoor

/-
  Contract of the document's Base.
-/
namespace Go.Proofs.YtoffjpgobhcipaaGreatDoor
open Go.ChangeShapes Go.WideShapes Go.ChangeAt Go.RowKit

/-- none of the digits below k is r -/
def Missed (r : Int) (k : Nat) : Prop := hexOf r = -1 ∨ (k : Int) ≤ hexOf r
theorem miss {r : Int} {k : Nat} (h : Missed r k) (h' : ¬ hexOf r = (k : Int)) : Missed r (k + 1) := by
  unfold Missed at h ⊢; omega
theorem missed_all {r : Int} (h : Missed r 16) : hexOf r = -1 := by
  unfold Missed at h
  rcases h with h | h
  · exact h
  · unfold hexOf at h ⊢
    split at h
    · omega
    · split at h
      · omega
      · split at h <;> omega
set_option maxHeartbeats 4000000 in
theorem rbase_any (r : Int) (w : World) :
    Calls Tryz.prog 147 #[.int .i64 r] w fun e w' => e = .returned (.int .i64 (hexOf r)) ∧ w = w' := by
  go_enter Tryz.func147, Tryz.ntmps147
  go_wp2
  go_loop [5] (fun i => ∃ (k : Nat) (z : Int), z = k ∧ k ≤ 16 ∧ i = .int .i64 z ∧ Missed r k) (fun i => 16 - (intOf i).toNat)
  case atStart => exact ⟨0, 0, rfl, by omega, rfl, by unfold Missed hexOf; split <;> (try split) <;> (try split) <;> omega⟩
  case round =>
    obtain ⟨k, z, hz, hk, rfl, HP⟩ := hrel
    by_cases hlt : k < 16
    · clear hk
      rcases (by omega : k = 0 ∨ k = 1 ∨ k = 2 ∨ k = 3 ∨ k = 4 ∨ k = 5 ∨ k = 6 ∨ k = 7 ∨ k = 8 ∨ k = 9 ∨ k = 10 ∨ k = 11 ∨ k = 12 ∨ k = 13 ∨ k = 14 ∨ k = 15) with rfl | rfl | rfl | rfl | rfl | rfl | rfl | rfl | rfl | rfl | rfl | rfl | rfl | rfl | rfl | rfl
      all_goals clear hlt
      · obtain rfl : z = 0 := by omega
        clear hz
        have f1 : wrap64 (((⟨#[48, 49, 50, 51, 52, 53, 54, 55, 56, 57, 65, 66, 67, 68, 69, 70]⟩ : ByteArray)[0]'(by decide)).toNat : Int) = 48 := by decide +kernel
        have f2 : wrap64 (((⟨#[48, 49, 50, 51, 52, 53, 54, 55, 56, 57, 97, 98, 99, 100, 101, 102]⟩ : ByteArray)[0]'(by decide)).toNat : Int) = 48 := by decide +kernel
        by_cases e1 : (48 : Int) = r
        · subst e1
          go_wp2
          go_ret
          exact ⟨ret_int (by decide), rfl⟩
        · · go_wp2
            go_round
            case rel => exact ⟨1, 1, rfl, by omega, rfl, miss HP (by unfold hexOf; split <;> (try split) <;> (try split) <;> omega)⟩
            case measure => simp [intOf]
      · obtain rfl : z = 1 := by omega
        clear hz
        have f1 : wrap64 (((⟨#[48, 49, 50, 51, 52, 53, 54, 55, 56, 57, 65, 66, 67, 68, 69, 70]⟩ : ByteArray)[1]'(by decide)).toNat : Int) = 49 := by decide +kernel
        have f2 : wrap64 (((⟨#[48, 49, 50, 51, 52, 53, 54, 55, 56, 57, 97, 98, 99, 100, 101, 102]⟩ : ByteArray)[1]'(by decide)).toNat : Int) = 49 := by decide +kernel
        by_cases e1 : (49 : Int) = r
        · subst e1
          go_wp2
          go_ret
          exact ⟨ret_int (by decide), rfl⟩
        · · go_wp2
            go_round
            case rel => exact ⟨2, 2, rfl, by omega, rfl, miss HP (by unfold hexOf; split <;> (try split) <;> (try split) <;> omega)⟩
            case measure => simp [intOf]
      · obtain rfl : z = 2 := by omega
        clear hz
        have f1 : wrap64 (((⟨#[48, 49, 50, 51, 52, 53, 54, 55, 56, 57, 65, 66, 67, 68, 69, 70]⟩ : ByteArray)[2]'(by decide)).toNat : Int) = 50 := by decide +kernel
        have f2 : wrap64 (((⟨#[48, 49, 50, 51, 52, 53, 54, 55, 56, 57, 97, 98, 99, 100, 101, 102]⟩ : ByteArray)[2]'(by decide)).toNat : Int) = 50 := by decide +kernel
        by_cases e1 : (50 : Int) = r
        · subst e1
          go_wp2
          go_ret
          exact ⟨ret_int (by decide), rfl⟩
        · · go_wp2
            go_round
            case rel => exact ⟨3, 3, rfl, by omega, rfl, miss HP (by unfold hexOf; split <;> (try split) <;> (try split) <;> omega)⟩
            case measure => simp [intOf]
      · obtain rfl : z = 3 := by omega
        clear hz
        have f1 : wrap64 (((⟨#[48, 49, 50, 51, 52, 53, 54, 55, 56, 57, 65, 66, 67, 68, 69, 70]⟩ : ByteArray)[3]'(by decide)).toNat : Int) = 51 := by decide +kernel
        have f2 : wrap64 (((⟨#[48, 49, 50, 51, 52, 53, 54, 55, 56, 57, 97, 98, 99, 100, 101, 102]⟩ : ByteArray)[3]'(by decide)).toNat : Int) = 51 := by decide +kernel
        by_cases e1 : (51 : Int) = r
        · subst e1
          go_wp2
          go_ret
          exact ⟨ret_int (by decide), rfl⟩
        · · go_wp2
            go_round
            case rel => exact ⟨4, 4, rfl, by omega, rfl, miss HP (by unfold hexOf; split <;> (try split) <;> (try split) <;> omega)⟩
            case measure => simp [intOf]
      · obtain rfl : z = 4 := by omega
        clear hz
        have f1 : wrap64 (((⟨#[48, 49, 50, 51, 52, 53, 54, 55, 56, 57, 65, 66, 67, 68, 69, 70]⟩ : ByteArray)[4]'(by decide)).toNat : Int) = 52 := by decide +kernel
        have f2 : wrap64 (((⟨#[48, 49, 50, 51, 52, 53, 54, 55, 56, 57, 97, 98, 99, 100, 101, 102]⟩ : ByteArray)[4]'(by decide)).toNat : Int) = 52 := by decide +kernel
        by_cases e1 : (52 : Int) = r
        · subst e1
          go_wp2
          go_ret
          exact ⟨ret_int (by decide), rfl⟩
        · · go_wp2
            go_round
            case rel => exact ⟨5, 5, rfl, by omega, rfl, miss HP (by unfold hexOf; split <;> (try split) <;> (try split) <;> omega)⟩
            case measure => simp [intOf]
      · obtain rfl : z = 5 := by omega
        clear hz
        have f1 : wrap64 (((⟨#[48, 49, 50, 51, 52, 53, 54, 55, 56, 57, 65, 66, 67, 68, 69, 70]⟩ : ByteArray)[5]'(by decide)).toNat : Int) = 53 := by decide +kernel
        have f2 : wrap64 (((⟨#[48, 49, 50, 51, 52, 53, 54, 55, 56, 57, 97, 98, 99, 100, 101, 102]⟩ : ByteArray)[5]'(by decide)).toNat : Int) = 53 := by decide +kernel
        by_cases e1 : (53 : Int) = r
        · subst e1
          go_wp2
          go_ret
          exact ⟨ret_int (by decide), rfl⟩
        · · go_wp2
            go_round
            case rel => exact ⟨6, 6, rfl, by omega, rfl, miss HP (by unfold hexOf; split <;> (try split) <;> (try split) <;> omega)⟩
            case measure => simp [intOf]
      · obtain rfl : z = 6 := by omega
        clear hz
        have f1 : wrap64 (((⟨#[48, 49, 50, 51, 52, 53, 54, 55, 56, 57, 65, 66, 67, 68, 69, 70]⟩ : ByteArray)[6]'(by decide)).toNat : Int) = 54 := by decide +kernel
        have f2 : wrap64 (((⟨#[48, 49, 50, 51, 52, 53, 54, 55, 56, 57, 97, 98, 99, 100, 101, 102]⟩ : ByteArray)[6]'(by decide)).toNat : Int) = 54 := by decide +kernel
        by_cases e1 : (54 : Int) = r
        · subst e1
          go_wp2
          go_ret
          exact ⟨ret_int (by decide), rfl⟩
        · · go_wp2
            go_round
            case rel => exact ⟨7, 7, rfl, by omega, rfl, miss HP (by unfold hexOf; split <;> (try split) <;> (try split) <;> omega)⟩
            case measure => simp [intOf]
      · obtain rfl : z = 7 := by omega
        clear hz
        have f1 : wrap64 (((⟨#[48, 49, 50, 51, 52, 53, 54, 55, 56, 57, 65, 66, 67, 68, 69, 70]⟩ : ByteArray)[7]'(by decide)).toNat : Int) = 55 := by decide +kernel
        have f2 : wrap64 (((⟨#[48, 49, 50, 51, 52, 53, 54, 55, 56, 57, 97, 98, 99, 100, 101, 102]⟩ : ByteArray)[7]'(by decide)).toNat : Int) = 55 := by decide +kernel
        by_cases e1 : (55 : Int) = r
        · subst e1
          go_wp2
          go_ret
          exact ⟨ret_int (by decide), rfl⟩
        · · go_wp2
            go_round
            case rel => exact ⟨8, 8, rfl, by omega, rfl, miss HP (by unfold hexOf; split <;> (try split) <;> (try split) <;> omega)⟩
            case measure => simp [intOf]
      · obtain rfl : z = 8 := by omega
        clear hz
        have f1 : wrap64 (((⟨#[48, 49, 50, 51, 52, 53, 54, 55, 56, 57, 65, 66, 67, 68, 69, 70]⟩ : ByteArray)[8]'(by decide)).toNat : Int) = 56 := by decide +kernel
        have f2 : wrap64 (((⟨#[48, 49, 50, 51, 52, 53, 54, 55, 56, 57, 97, 98, 99, 100, 101, 102]⟩ : ByteArray)[8]'(by decide)).toNat : Int) = 56 := by decide +kernel
        by_cases e1 : (56 : Int) = r
        · subst e1
          go_wp2
          go_ret
          exact ⟨ret_int (by decide), rfl⟩
        · · go_wp2
            go_round
            case rel => exact ⟨9, 9, rfl, by omega, rfl, miss HP (by unfold hexOf; split <;> (try split) <;> (try split) <;> omega)⟩
            case measure => simp [intOf]
      · obtain rfl : z = 9 := by omega
        clear hz
        have f1 : wrap64 (((⟨#[48, 49, 50, 51, 52, 53, 54, 55, 56, 57, 65, 66, 67, 68, 69, 70]⟩ : ByteArray)[9]'(by decide)).toNat : Int) = 57 := by decide +kernel
        have f2 : wrap64 (((⟨#[48, 49, 50, 51, 52, 53, 54, 55, 56, 57, 97, 98, 99, 100, 101, 102]⟩ : ByteArray)[9]'(by decide)).toNat : Int) = 57 := by decide +kernel
        by_cases e1 : (57 : Int) = r
        · subst e1
          go_wp2
          go_ret
          exact ⟨ret_int (by decide), rfl⟩
        · · go_wp2
            go_round
            case rel => exact ⟨10, 10, rfl, by omega, rfl, miss HP (by unfold hexOf; split <;> (try split) <;> (try split) <;> omega)⟩
            case measure => simp [intOf]
      · obtain rfl : z = 10 := by omega
        clear hz
        have f1 : wrap64 (((⟨#[48, 49, 50, 51, 52, 53, 54, 55, 56, 57, 65, 66, 67, 68, 69, 70]⟩ : ByteArray)[10]'(by decide)).toNat : Int) = 65 := by decide +kernel
        have f2 : wrap64 (((⟨#[48, 49, 50, 51, 52, 53, 54, 55, 56, 57, 97, 98, 99, 100, 101, 102]⟩ : ByteArray)[10]'(by decide)).toNat : Int) = 97 := by decide +kernel
        by_cases e1 : (65 : Int) = r
        · subst e1
          go_wp2
          go_ret
          exact ⟨ret_int (by decide), rfl⟩
        · by_cases e2 : (97 : Int) = r
          · subst e2
            go_wp2
            go_ret
            exact ⟨ret_int (by decide), rfl⟩
          · have g1 : ((65 : Int) == r) = false := by simpa using e1
            have g2 : ((97 : Int) == r) = false := by simpa using e2
            go_wp2
            go_round
            case rel => exact ⟨11, 11, rfl, by omega, rfl, miss HP (by unfold hexOf; split <;> (try split) <;> (try split) <;> omega)⟩
            case measure => simp [intOf]
      · obtain rfl : z = 11 := by omega
        clear hz
        have f1 : wrap64 (((⟨#[48, 49, 50, 51, 52, 53, 54, 55, 56, 57, 65, 66, 67, 68, 69, 70]⟩ : ByteArray)[11]'(by decide)).toNat : Int) = 66 := by decide +kernel
        have f2 : wrap64 (((⟨#[48, 49, 50, 51, 52, 53, 54, 55, 56, 57, 97, 98, 99, 100, 101, 102]⟩ : ByteArray)[11]'(by decide)).toNat : Int) = 98 := by decide +kernel
        by_cases e1 : (66 : Int) = r
        · subst e1
          go_wp2
          go_ret
          exact ⟨ret_int (by decide), rfl⟩
        · by_cases e2 : (98 : Int) = r
          · subst e2
            go_wp2
            go_ret
            exact ⟨ret_int (by decide), rfl⟩
          · have g1 : ((66 : Int) == r) = false := by simpa using e1
            have g2 : ((98 : Int) == r) = false := by simpa using e2
            go_wp2
            go_round
            case rel => exact ⟨12, 12, rfl, by omega, rfl, miss HP (by unfold hexOf; split <;> (try split) <;> (try split) <;> omega)⟩
            case measure => simp [intOf]
      · obtain rfl : z = 12 := by omega
        clear hz
        have f1 : wrap64 (((⟨#[48, 49, 50, 51, 52, 53, 54, 55, 56, 57, 65, 66, 67, 68, 69, 70]⟩ : ByteArray)[12]'(by decide)).toNat : Int) = 67 := by decide +kernel
        have f2 : wrap64 (((⟨#[48, 49, 50, 51, 52, 53, 54, 55, 56, 57, 97, 98, 99, 100, 101, 102]⟩ : ByteArray)[12]'(by decide)).toNat : Int) = 99 := by decide +kernel
        by_cases e1 : (67 : Int) = r
        · subst e1
          go_wp2
          go_ret
          exact ⟨ret_int (by decide), rfl⟩
        · by_cases e2 : (99 : Int) = r
          · subst e2
            go_wp2
            go_ret
            exact ⟨ret_int (by decide), rfl⟩
          · have g1 : ((67 : Int) == r) = false := by simpa using e1
            have g2 : ((99 : Int) == r) = false := by simpa using e2
            go_wp2
            go_round
            case rel => exact ⟨13, 13, rfl, by omega, rfl, miss HP (by unfold hexOf; split <;> (try split) <;> (try split) <;> omega)⟩
            case measure => simp [intOf]
      · obtain rfl : z = 13 := by omega
        clear hz
        have f1 : wrap64 (((⟨#[48, 49, 50, 51, 52, 53, 54, 55, 56, 57, 65, 66, 67, 68, 69, 70]⟩ : ByteArray)[13]'(by decide)).toNat : Int) = 68 := by decide +kernel
        have f2 : wrap64 (((⟨#[48, 49, 50, 51, 52, 53, 54, 55, 56, 57, 97, 98, 99, 100, 101, 102]⟩ : ByteArray)[13]'(by decide)).toNat : Int) = 100 := by decide +kernel
        by_cases e1 : (68 : Int) = r
        · subst e1
          go_wp2
          go_ret
          exact ⟨ret_int (by decide), rfl⟩
        · by_cases e2 : (100 : Int) = r
          · subst e2
            go_wp2
            go_ret
            exact ⟨ret_int (by decide), rfl⟩
          · have g1 : ((68 : Int) == r) = false := by simpa using e1
            have g2 : ((100 : Int) == r) = false := by simpa using e2
            go_wp2
            go_round
            case rel => exact ⟨14, 14, rfl, by omega, rfl, miss HP (by unfold hexOf; split <;> (try split) <;> (try split) <;> omega)⟩
            case measure => simp [intOf]
      · obtain rfl : z = 14 := by omega
        clear hz
        have f1 : wrap64 (((⟨#[48, 49, 50, 51, 52, 53, 54, 55, 56, 57, 65, 66, 67, 68, 69, 70]⟩ : ByteArray)[14]'(by decide)).toNat : Int) = 69 := by decide +kernel
        have f2 : wrap64 (((⟨#[48, 49, 50, 51, 52, 53, 54, 55, 56, 57, 97, 98, 99, 100, 101, 102]⟩ : ByteArray)[14]'(by decide)).toNat : Int) = 101 := by decide +kernel
        by_cases e1 : (69 : Int) = r
        · subst e1
          go_wp2
          go_ret
          exact ⟨ret_int (by decide), rfl⟩
        · by_cases e2 : (101 : Int) = r
          · subst e2
            go_wp2
            go_ret
            exact ⟨ret_int (by decide), rfl⟩
          · have g1 : ((69 : Int) == r) = false := by simpa using e1
            have g2 : ((101 : Int) == r) = false := by simpa using e2
            go_wp2
            go_round
            case rel => exact ⟨15, 15, rfl, by omega, rfl, miss HP (by unfold hexOf; split <;> (try split) <;> (try split) <;> omega)⟩
            case measure => simp [intOf]
      · obtain rfl : z = 15 := by omega
        clear hz
        have f1 : wrap64 (((⟨#[48, 49, 50, 51, 52, 53, 54, 55, 56, 57, 65, 66, 67, 68, 69, 70]⟩ : ByteArray)[15]'(by decide)).toNat : Int) = 70 := by decide +kernel
        have f2 : wrap64 (((⟨#[48, 49, 50, 51, 52, 53, 54, 55, 56, 57, 97, 98, 99, 100, 101, 102]⟩ : ByteArray)[15]'(by decide)).toNat : Int) = 102 := by decide +kernel
        by_cases e1 : (70 : Int) = r
        · subst e1
          go_wp2
          go_ret
          exact ⟨ret_int (by decide), rfl⟩
        · by_cases e2 : (102 : Int) = r
          · subst e2
            go_wp2
            go_ret
            exact ⟨ret_int (by decide), rfl⟩
          · have g1 : ((70 : Int) == r) = false := by simpa using e1
            have g2 : ((102 : Int) == r) = false := by simpa using e2
            go_wp2
            go_round
            case rel => exact ⟨16, 16, rfl, by omega, rfl, miss HP (by unfold hexOf; split <;> (try split) <;> (try split) <;> omega)⟩
            case measure => simp [intOf]
    · obtain rfl : k = 16 := by omega
      obtain rfl : z = 16 := by omega
      have hm := Lib.hid (missed_all HP)
      clear hz hk hlt
      go_wp2
      go_ret
      exact ⟨ret_int (by rw [hm.out]), rfl⟩
end Go.Proofs.YtoffjpgobhcipaaGreatDoor

/-
  Contracts of the document's Words and Word.
-/
namespace Go.Proofs.YtoffjpgobhcipaaGreatDoor
open Go.ChangeShapes Go.WideShapes Go.ChangeAt Go.RowKit

/-- a row of strings in a block -/
def Strs (w : World) (b : Nat) (l : List (List UInt8)) : Prop :=
  ∀ (k : Nat) (x : List UInt8), l[k]? = some x → w.cell? ⟨b, k, none⟩ = some (.string ⟨x.toArray⟩)
def strCells (l : List (List UInt8)) : List Value := l.map fun x => .string ⟨x.toArray⟩
theorem strs_new (w : World) (t : TypeId) (c : Array Value) (l : List (List UInt8)) (hc : c = (strCells l).toArray) : Strs (w.alloc (.cells c t)) w.heap.size l := by
  subst hc
  intro k x h
  have hh : (w.alloc (.cells (strCells l).toArray t)).heap[w.heap.size]? = some (.cells (strCells l).toArray t) := by
    show (w.heap.push _)[w.heap.size]? = _
    simp
  unfold World.cell?
  simp only [hh]
  simp [strCells, h]
theorem info9 : (Tryz.prog.info? 9).map (fun i => (i.zero, i.size, i.bytes)) = some (some (.string ⟨#[]⟩), 1, 16) := by kernel_rfl
set_option maxRecDepth 100000 in
set_option maxHeartbeats 1000000 in
theorem rwords_any (w : World) :
    Calls Tryz.prog 93 #[] w fun e w' => e = .returned (.slice (some ⟨w.heap.size, 0, none⟩) 25 25) ∧ w' = w.alloc (.cells (strCells words).toArray 9) := by
  obtain ⟨i0, hi, hz0, hz1, _⟩ := info_parts info9
  have hs1 : ¬ 25 * i0.size > 2 ^ 24 := by rw [hz1]; decide
  have hs2 : ¬ 25 * i0.size = 0 := by rw [hz1]; decide
  have HZ := Lib.hid hz1
  clear hz1
  go_enter Tryz.func93, Tryz.ntmps93
  go_wp2_with (first
    | (refine wpList_buildSlice rfl 50 9 25 _ rfl (strCells words).toArray i0 _ Tryz.underlying50 hi hz0 hs1 hs2 (by rw [HZ.out]; kernel_rfl) ?_))
  go_ret
  exact ⟨rfl, rfl⟩
theorem contains_at (l : List (List UInt8)) (k : Nat) (x s : List UInt8) (h : l[k]? = some x) : (l.drop k).contains s = ((x == s) || (l.drop (k + 1)).contains s) := by
  obtain ⟨hk, he⟩ := List.getElem?_eq_some_iff.mp h
  rw [List.drop_eq_getElem_cons hk, he, List.contains_cons, Bool.beq_comm]
set_option maxHeartbeats 1000000 in
theorem rword_any (s : ByteArray) (w : World) :
    Calls Tryz.prog 74 #[.string s] w fun e w' => e = .returned (.bool (isWord s.data.toList)) ∧ Below w.heap.size w w' := by
  have hP := strs_new w 9 _ words rfl
  have hB : Below w.heap.size w (w.alloc (.cells (strCells words).toArray 9)) := (Below.refl _ w).alloc (Nat.le_refl _) _
  obtain ⟨W, hW⟩ : ∃ W, W = w.alloc (.cells (strCells words).toArray 9) := ⟨_, rfl⟩
  rw [← hW] at hP hB
  have HWW := Lib.hid hW
  clear hW
  go_enter Tryz.func74, Tryz.ntmps74
  go_wp2_with (first
    | (go_at_call 93; refine (rwords_any _).mono ?_; rintro e w' ⟨rfl, h0⟩; rw [← HWW.out] at h0; subst h0))
  go_loop [4] (fun i => ∃ k : Nat, k ≤ 25 ∧ i = .int .i64 k ∧ Hid (isWord s.data.toList = (words.drop k).contains s.data.toList)) (fun i => 25 - (intOf i).toNat)
  case atStart => exact ⟨0, Nat.zero_le _, rfl, Lib.hid rfl⟩
  case round =>
    obtain ⟨k, hk, rfl, HW⟩ := hrel
    by_cases hlt : k < 25
    · obtain ⟨x, hx⟩ : ∃ x, words[k]? = some x := ⟨words[k]'hlt, List.getElem?_eq_getElem hlt⟩
      have hc1 := hP k x hx
      have HA := Lib.hid (contains_at words k x s.data.toList hx)
      clear hx hP
      by_cases h1 : x = s.data.toList
      · have h2 : (x == s.toList) = true := by rw [ByteArray.toList_eq]; simp [h1]
        have H1 := Lib.hid h1
        clear h1
        go_wp2
        go_ret
        exact ⟨ret_bool (by rw [HW.out, HA.out, H1.out]; simp), hB⟩
      · have h2 : (x == s.toList) = false := by rw [ByteArray.toList_eq]; simp [h1]
        have H1 := Lib.hid h1
        clear h1
        go_wp2
        go_round
        case rel => exact ⟨k + 1, by omega, by go_num, Lib.hid (by rw [HW.out, HA.out]; simp [H1.out])⟩
        case measure => simp [intOf]; omega
    · obtain rfl : k = 25 := by omega
      go_wp2
      go_ret
      exact ⟨ret_bool (by rw [HW.out]; rfl), hB⟩
end Go.Proofs.YtoffjpgobhcipaaGreatDoor
