/-
  Contract of class.Name.
-/
import Derived.Test.YtmlaefdfpekhcaaI
import Derived.Test.YtmlaefdfpekhcaaF
import Derived.Outline
namespace Go.Proofs.Ytmlaefdfpekhcaa
open Go.ChangeShapes Go.WideShapes Go.ChangeAt Go.RowKit
open Go.Lib (decodeL)

/-- from pos on there are letters, and digits that are not first -/
def namesAt (l : List UInt8) : Nat → Nat → Bool
  | 0, _ => true
  | f + 1, pos => if pos < l.length then (inside letters ((decodeL (l.drop pos)).1 : Int) || (pos != 0 && inside digits ((decodeL (l.drop pos)).1 : Int))) && namesAt l f (pos + (decodeL (l.drop pos)).2) else true
theorem namesAt_end (l : List UInt8) (f pos : Nat) (h : ¬ pos < l.length) : namesAt l f pos = true := by
  cases f with
  | zero => rfl
  | succ f => simp [namesAt, h]
def isName (l : List UInt8) : Bool := !(l == []) && !isWord l && decide (badAt l l.length 0 < 0) && namesAt l l.length 0
theorem badAt_cases (l : List UInt8) : ∀ f pos, badAt l f pos = -1 ∨ 0 ≤ badAt l f pos
  | 0, _ => .inl rfl
  | f + 1, pos => by
    unfold badAt
    split
    · split
      · exact .inr (by omega)
      · exact badAt_cases l f _
    · exact .inl rfl

theorem name_empty (w : World) :
    Calls Try.prog 36 #[.string ⟨#[]⟩] w fun e w' => e = .returned (.bool false) ∧ Below w.heap.size w w' := by
  go_enter Try.func36, Try.ntmps36
  go_wp2
  go_ret
  exact ⟨rfl, Below.refl _ _⟩
theorem name_word (s : ByteArray) (w : World) (he : (s.toList == []) = false) (h : isWord s.data.toList = true) :
    Calls Try.prog 36 #[.string s] w fun e w' => e = .returned (.bool false) ∧ Below w.heap.size w w' := by
  have hh := Lib.hid h
  clear h
  go_enter Try.func36, Try.ntmps36
  go_wp2_with (first | (go_at_call 38; refine (word_any s _).mono ?_; rintro e w' ⟨rfl, rfl⟩; rw [hh.out]))
  go_ret
  exact ⟨rfl, Below.refl _ _⟩
theorem name_bad (s : ByteArray) (w : World) (hs : s.size ≤ maxLen) (he : (s.toList == []) = false) (h : isWord s.data.toList = false) (hb : 0 ≤ badAt s.data.toList s.size 0) :
    Calls Try.prog 36 #[.string s] w fun e w' => e = .returned (.bool false) ∧ Below w.heap.size w w' := by
  have hh := Lib.hid h
  clear h
  obtain ⟨b, hbe⟩ : ∃ b, b = badAt s.data.toList s.size 0 := ⟨_, rfl⟩
  rw [← hbe] at hb
  have HB := Lib.hid hbe
  clear hbe
  go_enter Try.func36, Try.ntmps36
  go_wp2_with (first
    | (go_at_call 38; refine (word_any s _).mono ?_; rintro e w' ⟨rfl, rfl⟩; rw [hh.out])
    | (go_at_call 23; refine (bad_any s _ hs).mono ?_; rintro e w' ⟨rfl, hB⟩; rw [← HB.out]))
  go_ret
  exact ⟨rfl, hB⟩
set_option maxHeartbeats 2000000 in
theorem name_loop (s : ByteArray) (w : World) (hs : s.size ≤ maxLen) (he : (s.toList == []) = false) (h : isWord s.data.toList = false) (hb : badAt s.data.toList s.size 0 = -1) :
    Calls Try.prog 36 #[.string s] w fun e w' => e = .returned (.bool (namesAt s.data.toList s.size 0)) ∧ Below w.heap.size w w' := by
  have hh := Lib.hid h
  have HB := Lib.hid hb
  have hs' := hs
  unfold maxLen at hs
  clear h hb
  go_enter Try.func36, Try.ntmps36
  go_wp2_with (first
    | (go_at_call 38; refine (word_any s _).mono ?_; rintro e w' ⟨rfl, rfl⟩; rw [hh.out])
    | (go_at_call 23; refine (bad_any s _ hs').mono ?_; rintro e w1 ⟨rfl, hB1⟩; rw [HB.out]))
  obtain ⟨B, hBB⟩ : ∃ B, B = w1.heap.size := ⟨_, rfl⟩
  have HBB := Lib.hid hBB
  have hwB : w.heap.size ≤ B := by rw [hBB]; exact hB1.size
  clear hBB
  go_loopw [] (fun wr => ∃ (pos f : Nat), wr.heap[w1.heap.size]? = some (.stringIter s pos) ∧ Below w1.heap.size w1 wr ∧ Hid (namesAt s.data.toList f pos = namesAt s.data.toList s.size 0) ∧ s.size ≤ pos + f) (fun wr => s.size - wr.iterPos w1.heap.size)
  case atStart => exact ⟨0, s.size, World.iter_heap _ _ _, below_iter _ _ _, Lib.hid rfl, by omega⟩
  case round =>
    obtain ⟨pos, f, hit, hbw, HR, hf⟩ := hrel
    have hsz : w1.heap.size < wr.heap.size := (Array.getElem?_eq_some_iff.1 hit).1
    by_cases hp : pos < s.size
    · have hnx : ∀ ty, (Instr.next (.pointer (some ⟨w1.heap.size, 0, none⟩)) true ty).run Try.prog wr = _ := fun ty => Lib.run_next_any_at wr w1.heap.size s pos ty hit hp
      have hwd := width_pos' s pos hp
      obtain ⟨g, rfl⟩ : ∃ g, f = g + 1 := ⟨f - 1, by omega⟩
      obtain ⟨r, hr⟩ : ∃ r : Int, r = ((Utf8.decode s pos).1 : Int) := ⟨_, rfl⟩
      obtain ⟨nw, hnw⟩ : ∃ nw : Nat, nw = pos + (Utf8.decode s pos).2 := ⟨_, rfl⟩
      rw [← hr, ← hnw] at hnx
      have HS : Hid (namesAt s.data.toList (g + 1) pos = ((inside letters r || (pos != 0 && inside digits r)) && namesAt s.data.toList g nw)) := by
        show namesAt s.data.toList (g + 1) pos = _
        rw [hr, hnw, ← Lib.decodeL_drop]
        simp only [namesAt]
        rw [if_pos (by simpa using hp)]
      have hnw1 : pos < nw := by omega
      obtain ⟨w2, hw2⟩ : ∃ w2, w2 = wr.iterAt w1.heap.size s nw := ⟨_, rfl⟩
      have hit2 : w2.heap[w1.heap.size]? = some (.stringIter s nw) := by rw [hw2]; exact Lib.iterAt_heap wr w1.heap.size s pos nw hit
      have hbw2 : Below w1.heap.size w1 w2 := by rw [hw2]; exact Lib.below_iterAt hbw (k := w1.heap.size) (Nat.le_refl _) s nw
      have hsz2 : w1.heap.size < w2.heap.size := (Array.getElem?_eq_some_iff.1 hit2).1
      rw [← hw2] at hnx
      have HIP : Hid (wr.iterPos w1.heap.size = pos) := by show wr.iterPos _ = _; simp [World.iterPos, hit]
      clear hr hnw hwd hw2 hit hbw hsz
      cases hl : inside letters r with
      | true =>
        have HL := Lib.hid hl
        clear hl
        go_wp2_with (first | (go_at_call 28; refine (letter_any _ _).mono ?_; rintro e W3 ⟨rfl, hB3⟩; rw [HL.out]))
        go_roundw
        case rel =>
          have hh3 := hB3.block w1.heap.size hsz2
          exact ⟨nw, g, by rw [hh3]; exact hit2, hbw2.trans (hB3.mono (by omega)), Lib.hid (by rw [← HR.out, HS.out, HL.out]; simp), by omega⟩
        case measure =>
          have hh3 := hB3.block w1.heap.size hsz2
          have hi3 : W3.iterPos w1.heap.size = nw := by simp [World.iterPos, hh3, hit2]
          simp only [HIP.out, hi3]
          omega
      | false =>
        have HL := Lib.hid hl
        clear hl
        by_cases hp0 : pos = 0
        · subst hp0
          go_wp2_with (first | (go_at_call 28; refine (letter_any _ _).mono ?_; rintro e W3 ⟨rfl, hB3⟩; rw [HL.out]))
          go_ret
          exact ⟨ret_bool (by rw [← HR.out, HS.out, HL.out]; simp), hB1.trans ((hbw2.trans (hB3.mono (by omega))).mono (by have := HBB.out; omega))⟩
        · have hp1 : ((pos : Int) == 0) = false := by simpa using hp0
          cases hd : inside digits r with
          | true =>
            have HD := Lib.hid hd
            clear hd
            go_wp2_with (first
              | (go_at_call 28; refine (letter_any _ _).mono ?_; rintro e W3 ⟨rfl, hB3⟩; rw [HL.out])
              | (go_at_call 30; refine (digit_any _ _).mono ?_; rintro e W4 ⟨rfl, hB4⟩; rw [HD.out]))
            have hB5 := hB3.trans (hB4.mono hB3.size)
            go_roundw
            case rel =>
              have hh3 := hB5.block w1.heap.size hsz2
              exact ⟨nw, g, by rw [hh3]; exact hit2, hbw2.trans (hB5.mono (by omega)), Lib.hid (by rw [← HR.out, HS.out, HL.out, HD.out]; simp [hp0]), by omega⟩
            case measure =>
              have hh3 := hB5.block w1.heap.size hsz2
              have hi3 : W4.iterPos w1.heap.size = nw := by simp [World.iterPos, hh3, hit2]
              simp only [HIP.out, hi3]
              omega
          | false =>
            have HD := Lib.hid hd
            clear hd
            go_wp2_with (first
              | (go_at_call 28; refine (letter_any _ _).mono ?_; rintro e W3 ⟨rfl, hB3⟩; rw [HL.out])
              | (go_at_call 30; refine (digit_any _ _).mono ?_; rintro e W4 ⟨rfl, hB4⟩; rw [HD.out]))
            have hB5 := hB3.trans (hB4.mono hB3.size)
            go_ret
            exact ⟨ret_bool (by rw [← HR.out, HS.out, HL.out, HD.out]; simp), hB1.trans ((hbw2.trans (hB5.mono (by omega))).mono (by have := HBB.out; omega))⟩
    · have hnx : ∀ ty, (Instr.next (.pointer (some ⟨w1.heap.size, 0, none⟩)) true ty).run Try.prog wr = _ := fun ty => Lib.run_next_end_at wr w1.heap.size s pos ty hit hp
      go_wp2
      go_ret
      exact ⟨ret_bool (by rw [← HR.out, namesAt_end _ _ _ (by simpa using hp)]), hB1.trans (hbw.mono (by have := HBB.out; omega))⟩
theorem name_any (s : ByteArray) (w : World) (hs : s.size ≤ maxLen) :
    Calls Try.prog 36 #[.string s] w fun e w' => e = .returned (.bool (isName s.data.toList)) ∧ Below w.heap.size w w' := by
  have hsl : s.data.toList.length = s.size := rfl
  cases he : (s.data.toList == []) with
  | true =>
    have h0 : s.data.toList = [] := by simpa using he
    have hse : s = ⟨#[]⟩ := ba_of_list h0
    have hn : isName s.data.toList = false := by unfold isName; rw [he]; rfl
    rw [hn, hse]
    exact name_empty w
  | false =>
    have he' : (s.toList == []) = false := by rw [ByteArray.toList_eq]; exact he
    cases hw : isWord s.data.toList with
    | true =>
      have hn : isName s.data.toList = false := by unfold isName; rw [he, hw]; rfl
      rw [hn]
      exact name_word s w he' hw
    | false =>
      rcases badAt_cases s.data.toList s.size 0 with hb | hb
      · have hn : isName s.data.toList = namesAt s.data.toList s.size 0 := by unfold isName; rw [he, hw, hsl, hb]; simp
        rw [hn]
        exact name_loop s w hs he' hw hb
      · have hn : isName s.data.toList = false := by
          unfold isName
          rw [he, hw, hsl]
          have : decide (badAt s.data.toList s.size 0 < 0) = false := by rw [decide_eq_false_iff_not]; omega
          rw [this]; rfl
        rw [hn]
        exact name_bad s w hs he' hw hb
end Go.Proofs.Ytmlaefdfpekhcaa
