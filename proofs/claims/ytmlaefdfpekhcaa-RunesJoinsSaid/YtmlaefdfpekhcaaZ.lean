/-
  Contract of runes.Join.
-/
import Derived.Test.YtmlaefdfpekhcaaY
namespace Go.Proofs.Ytmlaefdfpekhcaa
open Go.ChangeShapes Go.WideShapes Go.ChangeAt Go.RowKit

theorem bytes_len : ∀ xs : List Int, allChar xs → (bytes xs).length ≤ 4 * xs.length
  | [], _ => by simp [bytes]
  | x :: xs, h => by
    have h1 := form_len x (h x (by simp))
    have h2 := bytes_len xs (fun y hy => h y (by simp [hy]))
    rw [bytes_cons, List.length_append, List.length_cons]; omega
set_option maxHeartbeats 2000000 in
theorem join_good (w : World) (v : Value) (xs : List Int) (hr : Reads .i32 w v xs) (hx : allChar xs) (hlen : xs.length ≤ 1048576) :
    Calls Try.prog 26 #[v] w fun e w' => e = .returned (.tuple #[.string ⟨(bytes xs).toArray⟩, .bool true]) ∧ Below w.heap.size w w' := by
  obtain ⟨a, cap, rfl, hc⟩ := hr
  obtain ⟨n, hn⟩ : ∃ n, n = xs.length := ⟨_, rfl⟩
  rw [← hn] at hlen ⊢
  have HN := Lib.hid hn
  clear hn
  go_enter Try.func26, Try.ntmps26
  go_wp2
  go_loopw [9] (fun i wr => ∃ k : Nat, k ≤ n ∧ i = .int .i64 k ∧ Lib.IsBuilder 60 5 w.heap.size w.heap.size (Lib.byteCells (bytes (xs.take k))) wr ∧ Below w.heap.size w wr) (fun i _ => n - (intOf i).toNat)
  case atStart => exact ⟨0, Nat.zero_le _, rfl, Lib.fresh_isBuilder 60 5 w, (Below.refl _ w).alloc (Nat.le_refl _) _⟩
  case round =>
    obtain ⟨k, hk, rfl, hI, hB⟩ := hrel
    have hbs := hB.size
    by_cases hlt : k < n
    · obtain ⟨x, hxk⟩ : ∃ x, xs[k]? = some x := ⟨xs[k]'(by have := HN.out; omega), List.getElem?_eq_getElem (by have := HN.out; omega)⟩
      have hxc : isChar x = true := hx x (List.mem_of_getElem? hxk)
      have HX := Lib.hid hxc
      obtain ⟨g, rfl, e1⟩ := hc k x hxk
      have c1 := (hB.cell (p := ⟨g, k, none⟩) (cell_lt e1)).trans e1
      have i1 : (k : Int) < (n : Int) := by omega
      have hfl := form_len x hxc
      have htl : (bytes (xs.take k)).length ≤ 4194304 := by
        have h1 := bytes_take_le xs k
        have h2 := bytes_len xs hx
        have h3 := HN.out
        omega
      have hlb : (Lib.byteCells (bytes (xs.take k))).length + (⟨(form x).toArray⟩ : ByteArray).size ≤ 140737488355328 := by
        have h1 : (⟨(form x).toArray⟩ : ByteArray).size = (form x).length := rfl
        rw [Lib.byteCells_length, h1]; omega
      have hst : Lib.byteCells (bytes (xs.take (k + 1))) = Lib.byteCells (bytes (xs.take k)) ++ Lib.strCells ⟨(form x).toArray⟩ := by
        obtain ⟨h3, h4⟩ := List.getElem?_eq_some_iff.mp hxk
        rw [List.take_succ_eq_append_getElem h3, h4, bytes_append, bytes_one, Lib.byteCells_append]; rfl
      have HST := Lib.hid hst
      clear hc e1 hxk hxc hfl htl hst
      go_wp2_with (first
        | (go_at_call 44; refine (character_any x _).mono ?_; rintro e w1 ⟨rfl, rfl⟩; rw [HX.out])
        | (go_at_call 18; refine (form_any x _).mono ?_; rintro e w2 ⟨rfl, rfl⟩)
        | (go_at_call 45; refine (writeString_any _ _ _ _ _ hI hlb hbs).mono ?_; rintro e w3 ⟨rfl, hI3, hB3⟩))
      go_roundw
      case rel => exact ⟨k + 1, by omega, by go_num, by rw [HST.out]; exact .inr hI3, hB.trans hB3⟩
      case measure => simp [intOf]; omega
    · have hke : k = n := by omega
      subst hke
      rw [HN.out, List.take_length] at hI
      go_wp2_with (first
        | (go_at_call 46; refine (Try.Builder_String_any _ _ _ _ hI hbs).mono ?_; rintro e w4 ⟨rfl, hB4⟩))
      go_ret2
      exact ⟨rfl, hB.trans hB4⟩
/-- the first number that is no character -/
theorem first_bad : ∀ xs : List Int, ¬ allChar xs → ∃ k x, xs[k]? = some x ∧ isChar x = false ∧ allChar (xs.take k)
  | [], h => absurd (fun _ hy => by simp at hy) h
  | x :: xs, h => by
    cases hc : isChar x with
    | false => exact ⟨0, x, rfl, hc, fun _ hy => by simp at hy⟩
    | true =>
      have h' : ¬ allChar xs := fun h2 => h (fun y hy => by
        rcases List.mem_cons.1 hy with rfl | hy
        · exact hc
        · exact h2 y hy)
      obtain ⟨k, y, h1, h2, h3⟩ := first_bad xs h'
      refine ⟨k + 1, y, by simpa using h1, h2, fun z hz => ?_⟩
      rw [List.take_succ_cons] at hz
      rcases List.mem_cons.1 hz with rfl | hz
      · exact hc
      · exact h3 z hz
set_option maxHeartbeats 2000000 in
theorem join_bad (w : World) (v : Value) (xs : List Int) (hr : Reads .i32 w v xs) (hx : ¬ allChar xs) (hlen : xs.length ≤ 1048576) :
    Calls Try.prog 26 #[v] w fun e w' => e = .returned (.tuple #[.string ⟨#[]⟩, .bool false]) ∧ Below w.heap.size w w' := by
  obtain ⟨kb, xb, hb1, hb2, hb3⟩ := first_bad xs hx
  obtain ⟨a, cap, rfl, hc⟩ := hr
  obtain ⟨n, hn⟩ : ∃ n, n = xs.length := ⟨_, rfl⟩
  rw [← hn] at hlen ⊢
  have hkb : kb < n := by rw [hn]; exact (List.getElem?_eq_some_iff.mp hb1).1
  have HB := Lib.hid (And.intro hb1 (And.intro hb2 hb3))
  have HN := Lib.hid hn
  clear hn hb1 hb2 hb3 hx
  go_enter Try.func26, Try.ntmps26
  go_wp2
  go_loopw [9] (fun i wr => ∃ k : Nat, k ≤ kb ∧ i = .int .i64 k ∧ Lib.IsBuilder 60 5 w.heap.size w.heap.size (Lib.byteCells (bytes (xs.take k))) wr ∧ Below w.heap.size w wr) (fun i _ => n - (intOf i).toNat)
  case atStart => exact ⟨0, Nat.zero_le _, rfl, Lib.fresh_isBuilder 60 5 w, (Below.refl _ w).alloc (Nat.le_refl _) _⟩
  case round =>
    obtain ⟨k, hk, rfl, hI, hB⟩ := hrel
    have hbs := hB.size
    obtain ⟨x, hxk⟩ : ∃ x, xs[k]? = some x := ⟨xs[k]'(by have := HN.out; omega), List.getElem?_eq_getElem (by have := HN.out; omega)⟩
    obtain ⟨g, rfl, e1⟩ := hc k x hxk
    have c1 := (hB.cell (p := ⟨g, k, none⟩) (cell_lt e1)).trans e1
    have i1 : (k : Int) < (n : Int) := by omega
    by_cases hke : k = kb
    · have hxb : isChar x = false := by
        subst hke
        have := HB.out.1
        rw [hxk] at this
        cases this
        exact HB.out.2.1
      have HX := Lib.hid hxb
      clear hc e1 hxk hxb hke
      go_wp2_with (first
        | (go_at_call 44; refine (character_any x _).mono ?_; rintro e w1 ⟨rfl, rfl⟩; rw [HX.out]))
      go_ret2
      exact ⟨rfl, hB⟩
    · have hklt : k < kb := by omega
      have hxc : isChar x = true := HB.out.2.2 x (by
        have h1 := List.mem_of_getElem? (l := xs.take kb) (i := k) (a := x) (by rw [List.getElem?_take_of_lt hklt]; exact hxk)
        exact h1)
      have HX := Lib.hid hxc
      have hfl := form_len x hxc
      have htl : (bytes (xs.take k)).length ≤ 4194304 := by
        have h0 : xs.take k = (xs.take kb).take k := by rw [List.take_take]; congr 1; omega
        have h1 := bytes_take_le (xs.take kb) k
        have h2 := bytes_len (xs.take kb) HB.out.2.2
        have h3 : (xs.take kb).length ≤ kb := List.length_take_le _ _
        rw [h0]
        omega
      have hlb : (Lib.byteCells (bytes (xs.take k))).length + (⟨(form x).toArray⟩ : ByteArray).size ≤ 140737488355328 := by
        have h1 : (⟨(form x).toArray⟩ : ByteArray).size = (form x).length := rfl
        rw [Lib.byteCells_length, h1]; omega
      have hst : Lib.byteCells (bytes (xs.take (k + 1))) = Lib.byteCells (bytes (xs.take k)) ++ Lib.strCells ⟨(form x).toArray⟩ := by
        obtain ⟨h3, h4⟩ := List.getElem?_eq_some_iff.mp hxk
        rw [List.take_succ_eq_append_getElem h3, h4, bytes_append, bytes_one, Lib.byteCells_append]; rfl
      have HST := Lib.hid hst
      clear hc e1 hxk hxc hfl htl hst hke
      go_wp2_with (first
        | (go_at_call 44; refine (character_any x _).mono ?_; rintro e w1 ⟨rfl, rfl⟩; rw [HX.out])
        | (go_at_call 18; refine (form_any x _).mono ?_; rintro e w2 ⟨rfl, rfl⟩)
        | (go_at_call 45; refine (writeString_any _ _ _ _ _ hI hlb hbs).mono ?_; rintro e w3 ⟨rfl, hI3, hB3⟩))
      go_roundw
      case rel => exact ⟨k + 1, by omega, by go_num, by rw [HST.out]; exact .inr hI3, hB.trans hB3⟩
      case measure => simp [intOf]; omega
end Go.Proofs.Ytmlaefdfpekhcaa
