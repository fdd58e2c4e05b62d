/-
  Contracts of layer 2's functions and of the document's answers for them.
-/
import Derived.Test.YtmlaefdfpekhcaaB
namespace Go.Proofs.Ytmlaefdfpekhcaa
open Go.ChangeShapes Go.WideShapes Go.ChangeAt Go.RowKit

/-- the first range whose end is not below r decides -/
def within : List (Int × Int) → Int → Bool
  | [], _ => false
  | x :: l, r => if r ≤ x.2 then decide (x.1 ≤ r) else within l r
theorem within_at (l : List (Int × Int)) (k : Nat) (r x y : Int) (h : l[k]? = some (x, y)) : within (l.drop k) r = if r ≤ y then decide (x ≤ r) else within (l.drop (k + 1)) r := by
  obtain ⟨hk, he⟩ := List.getElem?_eq_some_iff.mp h
  rw [List.drop_eq_getElem_cons hk, he]; rfl
/-- a row of pairs of numbers in a block -/
def Pairs (K : IntKind) (w : World) (b : Nat) (l : List (Int × Int)) : Prop :=
  ∀ k x y, l[k]? = some (x, y) → w.cell? ⟨b, k * 2, none⟩ = some (.int K x) ∧ w.cell? ⟨b, k * 2 + 1, none⟩ = some (.int K y)
set_option maxHeartbeats 400000 in
theorem within_any (r : Int) (b n : Nat) (l : List (Int × Int)) (w : World) (hb : b < w.heap.size) (hl : l.length = n) (hn : n ≤ 100) (hc : Pairs .i32 w b l) :
    Calls Try.prog 47 #[.int .i32 r, .slice (some ⟨b, 0, none⟩) n n] w fun e w' => e = .returned (.bool (within l r)) ∧ Below w.heap.size w w' := by
  subst hl
  go_enter Try.func47, Try.ntmps47
  go_wp2
  go_loopw [9] (fun i wr => ∃ k : Nat, k ≤ l.length ∧ i = .int .i64 k ∧ Below w.heap.size w wr ∧ Hid (within l r = within (l.drop k) r)) (fun i _ => l.length - (intOf i).toNat)
  case atStart => exact ⟨0, Nat.zero_le _, rfl, Below.refl _ _, Lib.hid (by simp)⟩
  case round =>
    obtain ⟨k, hk, rfl, hB, HW⟩ := hrel
    by_cases hlt : k < l.length
    · obtain ⟨x, y, hxy⟩ : ∃ x y, l[k]? = some (x, y) := ⟨l[k].1, l[k].2, by rw [List.getElem?_eq_getElem hlt]⟩
      have hc1 := (hB.cell (p := ⟨b, k * 2, none⟩) hb).trans (hc k x y hxy).1
      have hc2 := (hB.cell (p := ⟨b, k * 2 + 1, none⟩) hb).trans (hc k x y hxy).2
      have HA := Lib.hid (within_at l k r x y hxy)
      have hs := hB.size
      clear hxy hc
      go_wp2
      · have h1 : r ≤ y := by assumption
        go_ret
        exact ⟨ret_bool (by rw [HW.out, HA.out, if_pos h1]), hB.alloc hs _⟩
      · have h1 : ¬ r ≤ y := by omega
        go_roundw
        case rel => exact ⟨k + 1, by omega, by go_num, hB.alloc hs _, Lib.hid (by rw [HW.out, HA.out, if_neg h1])⟩
        case measure => simp [intOf]; omega
    · go_wp2
      go_ret
      exact ⟨ret_bool (by rw [HW.out, List.drop_of_length_le (by omega)]; rfl), hB⟩
/-- some range holds r -/
def inside : List (Int × Int) → Int → Bool
  | [], _ => false
  | x :: l, r => (decide (x.1 ≤ r ∧ r ≤ x.2)) || inside l r
theorem inside_at (l : List (Int × Int)) (k : Nat) (r x y : Int) (h : l[k]? = some (x, y)) : inside (l.drop k) r = (decide (x ≤ r ∧ r ≤ y) || inside (l.drop (k + 1)) r) := by
  obtain ⟨hk, he⟩ := List.getElem?_eq_some_iff.mp h
  rw [List.drop_eq_getElem_cons hk, he]; rfl
set_option maxHeartbeats 400000 in
theorem in_any (r : Int) (b n : Nat) (l : List (Int × Int)) (w : World) (hl : l.length = n) (hn : n ≤ 100) (hc : Pairs .i64 w b l) :
    Calls Try.prog 48 #[.int .i64 r, .slice (some ⟨b, 0, none⟩) n n] w fun e w' => e = .returned (.bool (inside l r)) ∧ w = w' := by
  subst hl
  go_enter Try.func48, Try.ntmps48
  go_wp2
  go_loop [5] (fun i => ∃ k : Nat, k ≤ l.length ∧ i = .int .i64 k ∧ Hid (inside l r = inside (l.drop k) r)) (fun i => l.length - (intOf i).toNat)
  case atStart => exact ⟨0, Nat.zero_le _, rfl, Lib.hid (by simp)⟩
  case round =>
    obtain ⟨k, hk, rfl, HW⟩ := hrel
    by_cases hlt : k < l.length
    · obtain ⟨x, y, hxy⟩ : ∃ x y, l[k]? = some (x, y) := ⟨l[k].1, l[k].2, by rw [List.getElem?_eq_getElem hlt]⟩
      have hc1 := (hc k x y hxy).1
      have hc2 := (hc k x y hxy).2
      have HA := Lib.hid (inside_at l k r x y hxy)
      clear hxy hc
      by_cases h1 : x ≤ r
      · by_cases h2 : r ≤ y
        · go_wp2
          go_ret
          exact ⟨ret_bool (by rw [HW.out, HA.out]; simp [h1, h2]), rfl⟩
        · go_wp2
          go_round
          case rel => exact ⟨k + 1, by omega, by go_num, Lib.hid (by rw [HW.out, HA.out]; simp [h2])⟩
          case measure => simp [intOf]; omega
      · go_wp2
        go_round
        case rel => exact ⟨k + 1, by omega, by go_num, Lib.hid (by rw [HW.out, HA.out]; simp [h1])⟩
        case measure => simp [intOf]; omega
    · go_wp2
      go_ret
      exact ⟨ret_bool (by rw [HW.out, List.drop_of_length_le (by omega)]; rfl), rfl⟩

/-! ### the tables -/
def letters : List (Int × Int) :=
  [(0x41, 0x5A), (0x5F, 0x5F), (0x61, 0x7A), (0xAA, 0xAA), (0xB5, 0xB5), (0xBA, 0xBA),
    (0xC0, 0xD6), (0xD8, 0xF6), (0xF8, 0x2C1), (0x370, 0x373), (0x376, 0x377), (0x37B, 0x37D),
    (0x386, 0x386), (0x388, 0x38A), (0x38C, 0x38C), (0x38E, 0x3A1), (0x3A3, 0x3F5), (0x400, 0x481),
    (0x48A, 0x52F), (0x531, 0x556), (0x561, 0x587), (0x5D0, 0x5EA), (0x620, 0x64A), (0x904, 0x939),
    (0xE01, 0xE30), (0x10A0, 0x10C5), (0x1E00, 0x1F15), (0x3041, 0x3096), (0x30A1, 0x30FA),
    (0x4E00, 0x9FFF), (0xAC00, 0xD7A3), (0x10400, 0x1044F), (0x20000, 0x2A6DF)]
def digits : List (Int × Int) := [(0x30, 0x39), (0x660, 0x669), (0x966, 0x96F), (0xE50, 0xE59), (0xFF10, 0xFF19)]
/-- each range lies above the one ahead of it -/
def rises : Int → List (Int × Int) → Bool
  | _, [] => true
  | a, x :: l => decide (a < x.1) && decide (x.1 ≤ x.2) && rises x.2 l
theorem inside_low : ∀ (l : List (Int × Int)) (a r : Int), rises a l = true → r ≤ a → inside l r = false
  | [], _, _, _, _ => rfl
  | x :: l, a, r, h, hr => by
    simp only [rises, Bool.and_eq_true, decide_eq_true_eq] at h
    unfold inside
    rw [inside_low l x.2 r h.2 (by omega), Bool.or_false, decide_eq_false_iff_not]
    omega
theorem within_inside : ∀ (l : List (Int × Int)) (a r : Int), rises a l = true → within l r = inside l r
  | [], _, _, _ => rfl
  | x :: l, a, r, h => by
    simp only [rises, Bool.and_eq_true, decide_eq_true_eq] at h
    unfold within inside
    by_cases hx : r ≤ x.2
    · rw [if_pos hx, inside_low l x.2 r h.2 hx, Bool.or_false]
      rw [Bool.eq_iff_iff, decide_eq_true_eq, decide_eq_true_eq]; omega
    · rw [if_neg hx, within_inside l x.2 r h.2]
      have : decide (x.1 ≤ r ∧ r ≤ x.2) = false := by rw [decide_eq_false_iff_not]; omega
      rw [this, Bool.false_or]

/-- the cells of a row of pairs -/
def pairCells (K : IntKind) (l : List (Int × Int)) : List Value := l.flatMap fun x => [.int K x.1, .int K x.2]
theorem pairCells_at (K : IntKind) : ∀ (l : List (Int × Int)) (k : Nat) (x y : Int), l[k]? = some (x, y) → (pairCells K l)[k * 2]? = some (.int K x) ∧ (pairCells K l)[k * 2 + 1]? = some (.int K y)
  | [], _, _, _, h => by simp at h
  | a :: l, 0, x, y, h => by
    simp at h; subst h; simp [pairCells]
  | a :: l, k + 1, x, y, h => by
    have := pairCells_at K l k x y (by simpa using h)
    simpa [pairCells, Nat.add_mul, Nat.add_assoc] using this
theorem pairs_new (K : IntKind) (w : World) (t : TypeId) (c : Array Value) (l : List (Int × Int)) (hc : c = (pairCells K l).toArray) : Pairs K (w.alloc (.cells c t)) w.heap.size l := by
  subst hc
  intro k x y h
  obtain ⟨h1, h2⟩ := pairCells_at K l k x y h
  have hh : (w.alloc (.cells (pairCells K l).toArray t)).heap[w.heap.size]? = some (.cells (pairCells K l).toArray t) := by
    show (w.heap.push _)[w.heap.size]? = _
    simp
  constructor
  · unfold World.cell?; simp only [hh]; simp [h1]
  · unfold World.cell?; simp only [hh]; simp [h2]

theorem digit_any (r : Int) (w : World) :
    Calls Try.prog 30 #[.int .i32 r] w fun e w' => e = .returned (.bool (inside digits r)) ∧ Below w.heap.size w w' := by
  go_enter Try.func30, Try.ntmps30
  go_wp2_with (go_at_call 47; refine (within_any r _ 5 digits _ (by simp) rfl (by decide) (pairs_new _ _ _ _ _ (by rfl))).mono ?_; rintro e w' ⟨rfl, hB⟩)
  go_ret
  exact ⟨ret_bool (within_inside digits (-1) r (by decide)), ((Below.refl _ w).alloc (Nat.le_refl _) _).trans (hB.mono (by simp))⟩
theorem blank_any (r : Int) (w : World) :
    Calls Try.prog 32 #[.int .i32 r] w fun e w' => e = .returned (.bool (decide (r = 9 ∨ r = 10 ∨ r = 13 ∨ r = 32))) ∧ w = w' := by
  go_enter Try.func32, Try.ntmps32
  go_wp2
  all_goals
    go_ret
    exact ⟨ret_bool (by rw [Bool.eq_iff_iff]; simp; try omega), rfl⟩
theorem rblank_any (r : Int) (w : World) :
    Calls Try.prog 33 #[.int .i64 r] w fun e w' => e = .returned (.bool (decide (r = 9 ∨ r = 10 ∨ r = 13 ∨ r = 32))) ∧ w = w' := by
  go_enter Try.func33, Try.ntmps33
  go_wp2
  all_goals
    go_ret
    exact ⟨ret_bool (by rw [Bool.eq_iff_iff]; simp; try omega), rfl⟩
end Go.Proofs.Ytmlaefdfpekhcaa
