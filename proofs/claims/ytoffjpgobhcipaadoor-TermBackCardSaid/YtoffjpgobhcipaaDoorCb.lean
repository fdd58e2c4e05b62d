/-
  Texts E F G I J K of an earlier seat, under this one's numbers.
-/
import Derived.Test.YtoffjpgobhcipaaDoorCa
import Derived.Great.BuildSlice
import Derived.Outline
set_option maxRecDepth 100000
/-
  Contracts of layer 2's functions and of the document's answers for them.
-/
namespace Go.Proofs.YtoffjpgobhcipaaDoor
open Go.ChangeShapes Go.WideShapes Go.ChangeAt Go.RowKit

/-- the first range whose end is not below r decides -/
def within : List (Int × Int) → Int → Bool
  | [], _ => false
  | x :: l, r => if r ≤ x.2 then decide (x.1 ≤ r) else within l r
theorem within_at (l : List (Int × Int)) (k : Nat) (r x y : Int) (h : l[k]? = some (x, y)) : within (l.drop k) r = if r ≤ y then decide (x ≤ r) else within (l.drop (k + 1)) r := by
  obtain ⟨hk, he⟩ := List.getElem?_eq_some_iff.mp h
  rw [List.drop_eq_getElem_cons hk, he]; rfl
/-- a row of pairs of numbers in a block -/
def Pairs (K : IntKind) (w : World) (b : Nat) (l : List (Int × Int)) : Prop :=
  ∀ k x y, l[k]? = some (x, y) → w.cell? ⟨b, k * 2, none⟩ = some (.int K x) ∧ w.cell? ⟨b, k * 2 + 1, none⟩ = some (.int K y)
set_option maxHeartbeats 400000 in
theorem within_any (r : Int) (b n : Nat) (l : List (Int × Int)) (w : World) (hb : b < w.heap.size) (hl : l.length = n) (hn : n ≤ 100) (hc : Pairs .i32 w b l) :
    Calls Tryd.prog 67 #[.int .i32 r, .slice (some ⟨b, 0, none⟩) n n] w fun e w' => e = .returned (.bool (within l r)) ∧ Below w.heap.size w w' := by
  subst hl
  go_enter Tryd.func67, Tryd.ntmps67
  go_wp2
  go_loopw [9] (fun i wr => ∃ k : Nat, k ≤ l.length ∧ i = .int .i64 k ∧ Below w.heap.size w wr ∧ Hid (within l r = within (l.drop k) r)) (fun i _ => l.length - (intOf i).toNat)
  case atStart => exact ⟨0, Nat.zero_le _, rfl, Below.refl _ _, Lib.hid (by simp)⟩
  case round =>
    obtain ⟨k, hk, rfl, hB, HW⟩ := hrel
    by_cases hlt : k < l.length
    · obtain ⟨x, y, hxy⟩ : ∃ x y, l[k]? = some (x, y) := ⟨l[k].1, l[k].2, by rw [List.getElem?_eq_getElem hlt]⟩
      have hc1 := (hB.cell (p := ⟨b, k * 2, none⟩) hb).trans (hc k x y hxy).1
      have hc2 := (hB.cell (p := ⟨b, k * 2 + 1, none⟩) hb).trans (hc k x y hxy).2
      have HA := Lib.hid (within_at l k r x y hxy)
      have hs := hB.size
      clear hxy hc
      go_wp2
      · have h1 : r ≤ y := by assumption
        go_ret
        exact ⟨ret_bool (by rw [HW.out, HA.out, if_pos h1]), hB.alloc hs _⟩
      · have h1 : ¬ r ≤ y := by omega
        go_roundw
        case rel => exact ⟨k + 1, by omega, by go_num, hB.alloc hs _, Lib.hid (by rw [HW.out, HA.out, if_neg h1])⟩
        case measure => simp [intOf]; omega
    · go_wp2
      go_ret
      exact ⟨ret_bool (by rw [HW.out, List.drop_of_length_le (by omega)]; rfl), hB⟩
/-- some range holds r -/
def inside : List (Int × Int) → Int → Bool
  | [], _ => false
  | x :: l, r => (decide (x.1 ≤ r ∧ r ≤ x.2)) || inside l r
theorem inside_at (l : List (Int × Int)) (k : Nat) (r x y : Int) (h : l[k]? = some (x, y)) : inside (l.drop k) r = (decide (x ≤ r ∧ r ≤ y) || inside (l.drop (k + 1)) r) := by
  obtain ⟨hk, he⟩ := List.getElem?_eq_some_iff.mp h
  rw [List.drop_eq_getElem_cons hk, he]; rfl
/-! ### the tables -/
def letters : List (Int × Int) :=
  [(0x41, 0x5A), (0x5F, 0x5F), (0x61, 0x7A), (0xAA, 0xAA), (0xB5, 0xB5), (0xBA, 0xBA),
    (0xC0, 0xD6), (0xD8, 0xF6), (0xF8, 0x2C1), (0x370, 0x373), (0x376, 0x377), (0x37B, 0x37D),
    (0x386, 0x386), (0x388, 0x38A), (0x38C, 0x38C), (0x38E, 0x3A1), (0x3A3, 0x3F5), (0x400, 0x481),
    (0x48A, 0x52F), (0x531, 0x556), (0x561, 0x587), (0x5D0, 0x5EA), (0x620, 0x64A), (0x904, 0x939),
    (0xE01, 0xE30), (0x10A0, 0x10C5), (0x1E00, 0x1F15), (0x3041, 0x3096), (0x30A1, 0x30FA),
    (0x4E00, 0x9FFF), (0xAC00, 0xD7A3), (0x10400, 0x1044F), (0x20000, 0x2A6DF)]
def digits : List (Int × Int) := [(0x30, 0x39), (0x660, 0x669), (0x966, 0x96F), (0xE50, 0xE59), (0xFF10, 0xFF19)]
/-- each range lies above the one ahead of it -/
def rises : Int → List (Int × Int) → Bool
  | _, [] => true
  | a, x :: l => decide (a < x.1) && decide (x.1 ≤ x.2) && rises x.2 l
theorem inside_low : ∀ (l : List (Int × Int)) (a r : Int), rises a l = true → r ≤ a → inside l r = false
  | [], _, _, _, _ => rfl
  | x :: l, a, r, h, hr => by
    simp only [rises, Bool.and_eq_true, decide_eq_true_eq] at h
    unfold inside
    rw [inside_low l x.2 r h.2 (by omega), Bool.or_false, decide_eq_false_iff_not]
    omega
theorem within_inside : ∀ (l : List (Int × Int)) (a r : Int), rises a l = true → within l r = inside l r
  | [], _, _, _ => rfl
  | x :: l, a, r, h => by
    simp only [rises, Bool.and_eq_true, decide_eq_true_eq] at h
    unfold within inside
    by_cases hx : r ≤ x.2
    · rw [if_pos hx, inside_low l x.2 r h.2 hx, Bool.or_false]
      rw [Bool.eq_iff_iff, decide_eq_true_eq, decide_eq_true_eq]; omega
    · rw [if_neg hx, within_inside l x.2 r h.2]
      have : decide (x.1 ≤ r ∧ r ≤ x.2) = false := by rw [decide_eq_false_iff_not]; omega
      rw [this, Bool.false_or]

/-- the cells of a row of pairs -/
def pairCells (K : IntKind) (l : List (Int × Int)) : List Value := l.flatMap fun x => [.int K x.1, .int K x.2]
theorem pairCells_at (K : IntKind) : ∀ (l : List (Int × Int)) (k : Nat) (x y : Int), l[k]? = some (x, y) → (pairCells K l)[k * 2]? = some (.int K x) ∧ (pairCells K l)[k * 2 + 1]? = some (.int K y)
  | [], _, _, _, h => by simp at h
  | a :: l, 0, x, y, h => by
    simp at h; subst h; simp [pairCells]
  | a :: l, k + 1, x, y, h => by
    have := pairCells_at K l k x y (by simpa using h)
    simpa [pairCells, Nat.add_mul, Nat.add_assoc] using this
theorem pairs_new (K : IntKind) (w : World) (t : TypeId) (c : Array Value) (l : List (Int × Int)) (hc : c = (pairCells K l).toArray) : Pairs K (w.alloc (.cells c t)) w.heap.size l := by
  subst hc
  intro k x y h
  obtain ⟨h1, h2⟩ := pairCells_at K l k x y h
  have hh : (w.alloc (.cells (pairCells K l).toArray t)).heap[w.heap.size]? = some (.cells (pairCells K l).toArray t) := by
    show (w.heap.push _)[w.heap.size]? = _
    simp
  constructor
  · unfold World.cell?; simp only [hh]; simp [h1]
  · unfold World.cell?; simp only [hh]; simp [h2]

theorem digit_any (r : Int) (w : World) :
    Calls Tryd.prog 51 #[.int .i32 r] w fun e w' => e = .returned (.bool (inside digits r)) ∧ Below w.heap.size w w' := by
  go_enter Tryd.func51, Tryd.ntmps51
  go_wp2_with (go_at_call 67; refine (within_any r _ 5 digits _ (by simp) rfl (by decide) (pairs_new _ _ _ _ _ (by rfl))).mono ?_; rintro e w' ⟨rfl, hB⟩)
  go_ret
  exact ⟨ret_bool (within_inside digits (-1) r (by decide)), ((Below.refl _ w).alloc (Nat.le_refl _) _).trans (hB.mono (by simp))⟩
end Go.Proofs.YtoffjpgobhcipaaDoor

/-
  Contracts of class.Letter and of the document's Letters and Letter: the tables as they lie in memory.
-/
namespace Go.Proofs.YtoffjpgobhcipaaDoor
open Go.ChangeShapes Go.WideShapes Go.ChangeAt Go.RowKit

theorem heap_new (w : World) (c : Array Value) (t : TypeId) : (w.alloc (.cells c t)).heap[w.heap.size]? = some (.cells c t (0, 0)) := by
  show (w.heap.push _)[w.heap.size]? = _
  simp
theorem setRow_new (w : World) (c d : Array Value) (t : TypeId) : (w.alloc (.cells c t)).setRow w.heap.size d = w.alloc (.cells d t) := by
  unfold World.setRow
  show ({ w with heap := (w.heap.push (Obj.cells c t)).modify w.heap.size _ } : World) = { w with heap := w.heap.push (Obj.cells d t) }
  congr 1
  apply Array.ext
  · simp
  · intro i h1 h2
    simp only [Array.getElem_modify, Array.getElem_push]
    by_cases hi : w.heap.size = i
    · subst hi; simp
    · have : i < w.heap.size := by simp at h2; omega
      simp [hi, this]
set_option maxRecDepth 100000 in
theorem zero68 (w : World) : (zeroValue 98).run Tryd.prog w = .ok (.agg (Array.replicate 66 (.int .i32 0))) w := by kernel_rfl

set_option maxRecDepth 100000 in
set_option maxHeartbeats 4000000 in
theorem letter_any (r : Int) (w : World) :
    Calls Tryd.prog 50 #[.int .i32 r] w fun e w' => e = .returned (.bool (inside letters r)) ∧ Below w.heap.size w w' := by
  have hz := zero68
  have hB0 : Below w.heap.size w (w.alloc (.cells (pairCells .i32 letters).toArray 98)) := (Below.refl _ w).alloc (Nat.le_refl _) _
  have hP0 := pairs_new .i32 w 98 _ letters rfl
  rw [← setRow_new w (Array.replicate 66 (.int .i32 0))] at hB0 hP0
  go_enter Tryd.func50, Tryd.ntmps50
  go_wp2_with (first
    | (refine wpList_buildTo rfl 98 _ rfl (some 37) rfl (pairCells .i32 letters).toArray (by kernel_rfl) ?_)
    | (refine wpList_store_rowTo rfl 98 (.tmp 3) (.tmp 37) rfl rfl w.heap.size (pairCells .i32 letters).toArray rfl rfl 98 (Array.replicate 66 (.int .i32 0)) (heap_new _ _ _) (by kernel_rfl) (by kernel_rfl) (by kernel_rfl) ?_)
    | (go_at_call 67; refine (within_any r _ 33 letters _ (by simp) rfl (by decide) hP0).mono ?_; rintro e w' ⟨rfl, hB⟩))
  go_ret
  exact ⟨ret_bool (within_inside letters (-1) r (by decide)), hB0.trans (hB.mono hB0.size)⟩
end Go.Proofs.YtoffjpgobhcipaaDoor

/-
  Contracts of the document's Letters, Letter, Digits and Digit: the tables as they lie in memory.
-/
namespace Go.Proofs.YtoffjpgobhcipaaDoor
open Go.ChangeShapes Go.WideShapes Go.ChangeAt Go.RowKit

end Go.Proofs.YtoffjpgobhcipaaDoor

/-
  Contracts of class.Base, class.Word and of the document's Base, Words and Word.
-/
namespace Go.Proofs.YtoffjpgobhcipaaDoor
open Go.ChangeShapes Go.WideShapes Go.ChangeAt Go.RowKit

/-- what a digit of base 16 says; -1 -/
def hexOf (r : Int) : Int := if 48 ≤ r ∧ r ≤ 57 then r - 48 else if 65 ≤ r ∧ r ≤ 70 then r - 55 else if 97 ≤ r ∧ r ≤ 102 then r - 87 else -1
theorem base_any (r : Int) (w : World) :
    Calls Tryd.prog 98 #[.int .i32 r] w fun e w' => e = .returned (.int .i64 (hexOf r)) ∧ w = w' := by
  by_cases h1 : 48 ≤ r ∧ r ≤ 57
  · obtain ⟨a, b⟩ := h1
    go_enter Tryd.func98, Tryd.ntmps98
    go_wp2
    go_ret
    exact ⟨ret_int (by unfold hexOf; rw [if_pos ⟨a, b⟩]), rfl⟩
  · by_cases h2 : 65 ≤ r ∧ r ≤ 70
    · obtain ⟨a, b⟩ := h2
      go_enter Tryd.func98, Tryd.ntmps98
      go_wp2
      go_ret
      exact ⟨ret_int (by unfold hexOf; rw [if_neg (by omega), if_pos ⟨a, b⟩]; omega), rfl⟩
    · by_cases h3 : 97 ≤ r ∧ r ≤ 102
      · obtain ⟨a, b⟩ := h3
        go_enter Tryd.func98, Tryd.ntmps98
        go_wp2
        go_ret
        exact ⟨ret_int (by unfold hexOf; rw [if_neg (by omega), if_neg (by omega), if_pos ⟨a, b⟩]; omega), rfl⟩
      · go_enter Tryd.func98, Tryd.ntmps98
        go_wp2
        all_goals
          go_ret
          exact ⟨ret_int (by unfold hexOf; rw [if_neg (by omega), if_neg (by omega), if_neg (by omega)]), rfl⟩
/-- the language's words -/
def words : List (List UInt8) :=
  [
    [98, 114, 101, 97, 107],
    [99, 97, 115, 101],
    [99, 104, 97, 110],
    [99, 111, 110, 115, 116],
    [99, 111, 110, 116, 105, 110, 117, 101],
    [100, 101, 102, 97, 117, 108, 116],
    [100, 101, 102, 101, 114],
    [101, 108, 115, 101],
    [102, 97, 108, 108, 116, 104, 114, 111, 117, 103, 104],
    [102, 111, 114],
    [102, 117, 110, 99],
    [103, 111],
    [103, 111, 116, 111],
    [105, 102],
    [105, 109, 112, 111, 114, 116],
    [105, 110, 116, 101, 114, 102, 97, 99, 101],
    [109, 97, 112],
    [112, 97, 99, 107, 97, 103, 101],
    [114, 97, 110, 103, 101],
    [114, 101, 116, 117, 114, 110],
    [115, 101, 108, 101, 99, 116],
    [115, 116, 114, 117, 99, 116],
    [115, 119, 105, 116, 99, 104],
    [116, 121, 112, 101],
    [118, 97, 114]]
def isWord (l : List UInt8) : Bool := words.contains l
theorem word_any (s : ByteArray) (w : World) :
    Calls Tryd.prog 48 #[.string s] w fun e w' => e = .returned (.bool (isWord s.data.toList)) ∧ w = w' := by
  go_enter Tryd.func48, Tryd.ntmps48
  go_wp2
  all_goals
    go_ret
    refine ⟨ret_bool ?_, rfl⟩
    rw [← ByteArray.toList_eq]
    unfold isWord words
    simp only [List.contains_cons, List.contains_nil, *]
    first | rfl | simp_all
end Go.Proofs.YtoffjpgobhcipaaDoor

/-
  Contract of the document's Base.
-/
namespace Go.Proofs.YtoffjpgobhcipaaDoor
open Go.ChangeShapes Go.WideShapes Go.ChangeAt Go.RowKit

/-- none of the digits below k is r -/
def Missed (r : Int) (k : Nat) : Prop := hexOf r = -1 ∨ (k : Int) ≤ hexOf r
theorem miss {r : Int} {k : Nat} (h : Missed r k) (h' : ¬ hexOf r = (k : Int)) : Missed r (k + 1) := by
  unfold Missed at h ⊢; omega
theorem missed_all {r : Int} (h : Missed r 16) : hexOf r = -1 := by
  unfold Missed at h
  rcases h with h | h
  · exact h
  · unfold hexOf at h ⊢
    split at h
    · omega
    · split at h
      · omega
      · split at h <;> omega
end Go.Proofs.YtoffjpgobhcipaaDoor

/-
  Contracts of the document's Words and Word.
-/
namespace Go.Proofs.YtoffjpgobhcipaaDoor
open Go.ChangeShapes Go.WideShapes Go.ChangeAt Go.RowKit

/-- a row of strings in a block -/
def Strs (w : World) (b : Nat) (l : List (List UInt8)) : Prop :=
  ∀ (k : Nat) (x : List UInt8), l[k]? = some x → w.cell? ⟨b, k, none⟩ = some (.string ⟨x.toArray⟩)
def strCells (l : List (List UInt8)) : List Value := l.map fun x => .string ⟨x.toArray⟩
theorem strs_new (w : World) (t : TypeId) (c : Array Value) (l : List (List UInt8)) (hc : c = (strCells l).toArray) : Strs (w.alloc (.cells c t)) w.heap.size l := by
  subst hc
  intro k x h
  have hh : (w.alloc (.cells (strCells l).toArray t)).heap[w.heap.size]? = some (.cells (strCells l).toArray t) := by
    show (w.heap.push _)[w.heap.size]? = _
    simp
  unfold World.cell?
  simp only [hh]
  simp [strCells, h]
theorem info9 : (Tryd.prog.info? 9).map (fun i => (i.zero, i.size, i.bytes)) = some (some (.string ⟨#[]⟩), 1, 16) := by kernel_rfl
theorem contains_at (l : List (List UInt8)) (k : Nat) (x s : List UInt8) (h : l[k]? = some x) : (l.drop k).contains s = ((x == s) || (l.drop (k + 1)).contains s) := by
  obtain ⟨hk, he⟩ := List.getElem?_eq_some_iff.mp h
  rw [List.drop_eq_getElem_cons hk, he, List.contains_cons, Bool.beq_comm]
end Go.Proofs.YtoffjpgobhcipaaDoor
