/-
  Texts L Chars S T U W of an earlier seat, under this one's numbers.
-/
import Derived.Test.YtoffjpgobhcipaaGreatDoorCb
import Derived.Outline
import Derived.WalkSmall
import Derived.OwnWalk
import Derived.Laws.AppendOwn
import Derived.Deep.QuietTactic
import Derived.BigQuiet
set_option maxRecDepth 100000
/-
  Contract of class.Name.
-/
namespace Go.Proofs.YtoffjpgobhcipaaGreatDoor.Cls
open Go.ChangeShapes Go.WideShapes Go.ChangeAt Go.RowKit
open Go.Lib (decodeL)

/-- from pos on there are letters, and digits that are not first -/
def namesAt (l : List UInt8) : Nat → Nat → Bool
  | 0, _ => true
  | f + 1, pos => if pos < l.length then (inside letters ((decodeL (l.drop pos)).1 : Int) || (pos != 0 && inside digits ((decodeL (l.drop pos)).1 : Int))) && namesAt l f (pos + (decodeL (l.drop pos)).2) else true
theorem namesAt_end (l : List UInt8) (f pos : Nat) (h : ¬ pos < l.length) : namesAt l f pos = true := by
  cases f with
  | zero => rfl
  | succ f => simp [namesAt, h]
def isName (l : List UInt8) : Bool := !(l == []) && !isWord l && decide (badAt l l.length 0 < 0) && namesAt l l.length 0
theorem badAt_cases (l : List UInt8) : ∀ f pos, badAt l f pos = -1 ∨ 0 ≤ badAt l f pos
  | 0, _ => .inl rfl
  | f + 1, pos => by
    unfold badAt
    split
    · split
      · exact .inr (by omega)
      · exact badAt_cases l f _
    · exact .inl rfl

theorem name_empty (w : World) :
    Calls Tryz.prog 52 #[.string ⟨#[]⟩] w fun e w' => e = .returned (.bool false) ∧ Below w.heap.size w w' := by
  go_enter Tryz.func52, Tryz.ntmps52
  go_wp2
  go_ret
  exact ⟨rfl, Below.refl _ _⟩
theorem name_word (s : ByteArray) (w : World) (he : (s.toList == []) = false) (h : isWord s.data.toList = true) :
    Calls Tryz.prog 52 #[.string s] w fun e w' => e = .returned (.bool false) ∧ Below w.heap.size w w' := by
  have hh := Lib.hid h
  clear h
  go_enter Tryz.func52, Tryz.ntmps52
  go_wp2_with (first | (go_at_call 68; refine (word_any s _).mono ?_; rintro e w' ⟨rfl, rfl⟩; rw [hh.out]))
  go_ret
  exact ⟨rfl, Below.refl _ _⟩
theorem name_bad (s : ByteArray) (w : World) (hs : s.size ≤ maxLen) (he : (s.toList == []) = false) (h : isWord s.data.toList = false) (hb : 0 ≤ badAt s.data.toList s.size 0) :
    Calls Tryz.prog 52 #[.string s] w fun e w' => e = .returned (.bool false) ∧ Below w.heap.size w w' := by
  have hh := Lib.hid h
  clear h
  obtain ⟨b, hbe⟩ : ∃ b, b = badAt s.data.toList s.size 0 := ⟨_, rfl⟩
  rw [← hbe] at hb
  have HB := Lib.hid hbe
  clear hbe
  go_enter Tryz.func52, Tryz.ntmps52
  go_wp2_with (first
    | (go_at_call 68; refine (word_any s _).mono ?_; rintro e w' ⟨rfl, rfl⟩; rw [hh.out])
    | (go_at_call 69; refine (bad_any s _ hs).mono ?_; rintro e w' ⟨rfl, hB⟩; rw [← HB.out]))
  go_ret
  exact ⟨rfl, hB⟩
set_option maxHeartbeats 2000000 in
theorem name_loop (s : ByteArray) (w : World) (hs : s.size ≤ maxLen) (he : (s.toList == []) = false) (h : isWord s.data.toList = false) (hb : badAt s.data.toList s.size 0 = -1) :
    Calls Tryz.prog 52 #[.string s] w fun e w' => e = .returned (.bool (namesAt s.data.toList s.size 0)) ∧ Below w.heap.size w w' := by
  have hh := Lib.hid h
  have HB := Lib.hid hb
  have hs' := hs
  unfold maxLen at hs
  clear h hb
  go_enter Tryz.func52, Tryz.ntmps52
  go_wp2_with (first
    | (go_at_call 68; refine (word_any s _).mono ?_; rintro e w' ⟨rfl, rfl⟩; rw [hh.out])
    | (go_at_call 69; refine (bad_any s _ hs').mono ?_; rintro e w1 ⟨rfl, hB1⟩; rw [HB.out]))
  obtain ⟨B, hBB⟩ : ∃ B, B = w1.heap.size := ⟨_, rfl⟩
  have HBB := Lib.hid hBB
  have hwB : w.heap.size ≤ B := by rw [hBB]; exact hB1.size
  clear hBB
  go_loopw [] (fun wr => ∃ (pos f : Nat), wr.heap[w1.heap.size]? = some (.stringIter s pos) ∧ Below w1.heap.size w1 wr ∧ Hid (namesAt s.data.toList f pos = namesAt s.data.toList s.size 0) ∧ s.size ≤ pos + f) (fun wr => s.size - wr.iterPos w1.heap.size)
  case atStart => exact ⟨0, s.size, World.iter_heap _ _ _, below_iter _ _ _, Lib.hid rfl, by omega⟩
  case round =>
    obtain ⟨pos, f, hit, hbw, HR, hf⟩ := hrel
    have hsz : w1.heap.size < wr.heap.size := (Array.getElem?_eq_some_iff.1 hit).1
    by_cases hp : pos < s.size
    · have hnx : ∀ ty, (Instr.next (.pointer (some ⟨w1.heap.size, 0, none⟩)) true ty).run Tryz.prog wr = _ := fun ty => Lib.run_next_any_at wr w1.heap.size s pos ty hit hp
      have hwd := width_pos' s pos hp
      obtain ⟨g, rfl⟩ : ∃ g, f = g + 1 := ⟨f - 1, by omega⟩
      obtain ⟨r, hr⟩ : ∃ r : Int, r = ((Utf8.decode s pos).1 : Int) := ⟨_, rfl⟩
      obtain ⟨nw, hnw⟩ : ∃ nw : Nat, nw = pos + (Utf8.decode s pos).2 := ⟨_, rfl⟩
      rw [← hr, ← hnw] at hnx
      have HS : Hid (namesAt s.data.toList (g + 1) pos = ((inside letters r || (pos != 0 && inside digits r)) && namesAt s.data.toList g nw)) := by
        show namesAt s.data.toList (g + 1) pos = _
        rw [hr, hnw, ← Lib.decodeL_drop]
        simp only [namesAt]
        rw [if_pos (by simpa using hp)]
      have hnw1 : pos < nw := by omega
      obtain ⟨w2, hw2⟩ : ∃ w2, w2 = wr.iterAt w1.heap.size s nw := ⟨_, rfl⟩
      have hit2 : w2.heap[w1.heap.size]? = some (.stringIter s nw) := by rw [hw2]; exact Lib.iterAt_heap wr w1.heap.size s pos nw hit
      have hbw2 : Below w1.heap.size w1 w2 := by rw [hw2]; exact Lib.below_iterAt hbw (k := w1.heap.size) (Nat.le_refl _) s nw
      have hsz2 : w1.heap.size < w2.heap.size := (Array.getElem?_eq_some_iff.1 hit2).1
      rw [← hw2] at hnx
      have HIP : Hid (wr.iterPos w1.heap.size = pos) := by show wr.iterPos _ = _; simp [World.iterPos, hit]
      clear hr hnw hwd hw2 hit hbw hsz
      cases hl : inside letters r with
      | true =>
        have HL := Lib.hid hl
        clear hl
        go_wp2_with (first | (go_at_call 70; refine (letter_any _ _).mono ?_; rintro e W3 ⟨rfl, hB3⟩; rw [HL.out]))
        go_roundw
        case rel =>
          have hh3 := hB3.block w1.heap.size hsz2
          exact ⟨nw, g, by rw [hh3]; exact hit2, hbw2.trans (hB3.mono (by omega)), Lib.hid (by rw [← HR.out, HS.out, HL.out]; simp), by omega⟩
        case measure =>
          have hh3 := hB3.block w1.heap.size hsz2
          have hi3 : W3.iterPos w1.heap.size = nw := by simp [World.iterPos, hh3, hit2]
          simp only [HIP.out, hi3]
          omega
      | false =>
        have HL := Lib.hid hl
        clear hl
        by_cases hp0 : pos = 0
        · subst hp0
          go_wp2_with (first | (go_at_call 70; refine (letter_any _ _).mono ?_; rintro e W3 ⟨rfl, hB3⟩; rw [HL.out]))
          go_ret
          exact ⟨ret_bool (by rw [← HR.out, HS.out, HL.out]; simp), hB1.trans ((hbw2.trans (hB3.mono (by omega))).mono (by have := HBB.out; omega))⟩
        · have hp1 : ((pos : Int) == 0) = false := by simpa using hp0
          cases hd : inside digits r with
          | true =>
            have HD := Lib.hid hd
            clear hd
            go_wp2_with (first
              | (go_at_call 70; refine (letter_any _ _).mono ?_; rintro e W3 ⟨rfl, hB3⟩; rw [HL.out])
              | (go_at_call 71; refine (digit_any _ _).mono ?_; rintro e W4 ⟨rfl, hB4⟩; rw [HD.out]))
            have hB5 := hB3.trans (hB4.mono hB3.size)
            go_roundw
            case rel =>
              have hh3 := hB5.block w1.heap.size hsz2
              exact ⟨nw, g, by rw [hh3]; exact hit2, hbw2.trans (hB5.mono (by omega)), Lib.hid (by rw [← HR.out, HS.out, HL.out, HD.out]; simp [hp0]), by omega⟩
            case measure =>
              have hh3 := hB5.block w1.heap.size hsz2
              have hi3 : W4.iterPos w1.heap.size = nw := by simp [World.iterPos, hh3, hit2]
              simp only [HIP.out, hi3]
              omega
          | false =>
            have HD := Lib.hid hd
            clear hd
            go_wp2_with (first
              | (go_at_call 70; refine (letter_any _ _).mono ?_; rintro e W3 ⟨rfl, hB3⟩; rw [HL.out])
              | (go_at_call 71; refine (digit_any _ _).mono ?_; rintro e W4 ⟨rfl, hB4⟩; rw [HD.out]))
            have hB5 := hB3.trans (hB4.mono hB3.size)
            go_ret
            exact ⟨ret_bool (by rw [← HR.out, HS.out, HL.out, HD.out]; simp), hB1.trans ((hbw2.trans (hB5.mono (by omega))).mono (by have := HBB.out; omega))⟩
    · have hnx : ∀ ty, (Instr.next (.pointer (some ⟨w1.heap.size, 0, none⟩)) true ty).run Tryz.prog wr = _ := fun ty => Lib.run_next_end_at wr w1.heap.size s pos ty hit hp
      go_wp2
      go_ret
      exact ⟨ret_bool (by rw [← HR.out, namesAt_end _ _ _ (by simpa using hp)]), hB1.trans (hbw.mono (by have := HBB.out; omega))⟩
theorem name_any (s : ByteArray) (w : World) (hs : s.size ≤ maxLen) :
    Calls Tryz.prog 52 #[.string s] w fun e w' => e = .returned (.bool (isName s.data.toList)) ∧ Below w.heap.size w w' := by
  have hsl : s.data.toList.length = s.size := rfl
  cases he : (s.data.toList == []) with
  | true =>
    have h0 : s.data.toList = [] := by simpa using he
    have hse : s = ⟨#[]⟩ := ba_of_list h0
    have hn : isName s.data.toList = false := by unfold isName; rw [he]; rfl
    rw [hn, hse]
    exact name_empty w
  | false =>
    have he' : (s.toList == []) = false := by rw [ByteArray.toList_eq]; exact he
    cases hw : isWord s.data.toList with
    | true =>
      have hn : isName s.data.toList = false := by unfold isName; rw [he, hw]; rfl
      rw [hn]
      exact name_word s w he' hw
    | false =>
      rcases badAt_cases s.data.toList s.size 0 with hb | hb
      · have hn : isName s.data.toList = namesAt s.data.toList s.size 0 := by unfold isName; rw [he, hw, hsl, hb]; simp
        rw [hn]
        exact name_loop s w hs he' hw hb
      · have hn : isName s.data.toList = false := by
          unfold isName
          rw [he, hw, hsl]
          have : decide (badAt s.data.toList s.size 0 < 0) = false := by rw [decide_eq_false_iff_not]; omega
          rw [this]; rfl
        rw [hn]
        exact name_bad s w hs he' hw hb
end Go.Proofs.YtoffjpgobhcipaaGreatDoor.Cls

/-
  Plain lists under the statements on whole texts: a text of characters is their forms, one behind the other.
-/
namespace Go.Proofs.YtoffjpgobhcipaaGreatDoor.Cls
open Go.Lib (decodeL)

/-- characters as bytes -/
def bytes (xs : List Int) : List UInt8 := xs.flatMap form
/-- all are characters -/
def allChar (xs : List Int) : Prop := ∀ x ∈ xs, isChar x = true
theorem bytes_cons (x : Int) (xs : List Int) : bytes (x :: xs) = form x ++ bytes xs := rfl
theorem bytes_append (xs ys : List Int) : bytes (xs ++ ys) = bytes xs ++ bytes ys := by simp [bytes]
theorem bytes_one (x : Int) : bytes [x] = form x := by simp [bytes]
theorem form_ne (x : Int) (h : isChar x = true) : form x ≠ [] := by
  intro e; have := form_len x h; rw [e] at this; simp at this
theorem wide_bytes (x : Int) (t : List UInt8) (h : isChar x = true) : wide (form x ++ t) = (form x).length := by
  have hne : form x ++ t ≠ [] := by simp [form_ne x h]
  rw [wide_good _ hne (form_good x t h), decode_form x t h]
theorem chr_bytes (x : Int) (t : List UInt8) (h : isChar x = true) : ((decodeL (form x ++ t)).1 : Int) = x := by
  rw [decode_form x t h]
  unfold isChar at h
  rw [decide_eq_true_eq] at h
  simp; omega

theorem bad_none : ∀ (xs : List Int) (pre : List UInt8) (f : Nat), allChar xs → badAt (pre ++ bytes xs) f pre.length = -1
  | [], pre, f, _ => by rw [badAt_end]; simp [bytes]
  | x :: xs, pre, 0, _ => rfl
  | x :: xs, pre, f + 1, h => by
    have hx := h x (by simp)
    have hd : (pre ++ bytes (x :: xs)).drop pre.length = form x ++ bytes xs := by simp [bytes_cons]
    unfold badAt
    split
    · rw [hd, form_good x _ hx, wide_bytes x _ hx]
      have := bad_none xs (pre ++ form x) f (fun y hy => h y (by simp [hy]))
      simp only [List.length_append] at this
      rw [bytes_cons, ← List.append_assoc]
      simpa using this
    · rfl

/-- WHERE NONE IS BAD THE TEXT IS ONE OF CHARACTERS. -/
theorem none_bad : ∀ (f : Nat) (l : List UInt8) (pos : Nat), l.length ≤ pos + f → badAt l f pos = -1 → ∃ xs, allChar xs ∧ l.drop pos = bytes xs
  | 0, l, pos, hf, _ => ⟨[], fun _ h => by simp at h, by rw [List.drop_of_length_le (by omega)]; rfl⟩
  | f + 1, l, pos, hf, h => by
    by_cases hp : pos < l.length
    · have hne : l.drop pos ≠ [] := by intro e; have := congrArg List.length e; simp at this; omega
      unfold badAt at h
      rw [if_pos hp] at h
      cases hb : isBad (l.drop pos) with
      | true => rw [hb] at h; simp at h
      | false =>
        rw [hb] at h
        simp only [Bool.false_eq_true, if_false] at h
        have hw := good_width _ hne
        rw [wide_good _ hne hb] at h
        obtain ⟨xs, hx, he⟩ := none_bad f l (pos + (decodeL (l.drop pos)).2) (by omega) h
        refine ⟨((decodeL (l.drop pos)).1 : Int) :: xs, ?_, ?_⟩
        · intro y hy
          rcases List.mem_cons.1 hy with rfl | hy
          · exact good_char _ hne hb
          · exact hx y hy
        · rw [bytes_cons, ← he, good_form _ hne hb, ← List.drop_drop, List.take_append_drop]
    · exact ⟨[], fun _ h => by simp at h, by rw [List.drop_of_length_le (by omega)]; rfl⟩

/-- letters, and digits that are not first -/
def namesOk : Bool → List Int → Bool
  | _, [] => true
  | b, x :: xs => (inside letters x || (b && inside digits x)) && namesOk true xs
theorem names_bytes : ∀ (xs : List Int) (pre : List UInt8) (f : Nat), allChar xs → (bytes xs).length ≤ f → namesAt (pre ++ bytes xs) f pre.length = namesOk (pre.length != 0) xs
  | [], pre, f, _, _ => by rw [namesAt_end]; · rfl
                           · simp [bytes]
  | x :: xs, pre, 0, h, hf => by
    have := form_len x (h x (by simp))
    rw [bytes_cons, List.length_append] at hf
    omega
  | x :: xs, pre, f + 1, h, hf => by
    have hx := h x (by simp)
    have hl := form_len x hx
    have hd : (pre ++ bytes (x :: xs)).drop pre.length = form x ++ bytes xs := by simp [bytes_cons]
    have hfx : (bytes xs).length ≤ f := by
      have h0 : (bytes (x :: xs)).length = (form x).length + (bytes xs).length := by rw [bytes_cons, List.length_append]
      omega
    have hlen : pre.length < (pre ++ bytes (x :: xs)).length := by rw [bytes_cons, List.length_append, List.length_append]; omega
    unfold namesAt
    rw [if_pos hlen, hd, chr_bytes x _ hx, decode_form x _ hx]
    have := names_bytes xs (pre ++ form x) f (fun y hy => h y (by simp [hy])) hfx
    simp only [List.length_append] at this
    dsimp only
    rw [bytes_cons, ← List.append_assoc, this]
    have h1 : (pre.length + (form x).length != 0) = true := by rw [bne_iff_ne]; omega
    rw [h1]
    rfl
theorem names_snoc : ∀ (xs : List Int) (b : Bool) (x : Int), namesOk b (xs ++ [x]) = (namesOk b xs && (inside letters x || ((b || !(xs == [])) && inside digits x)))
  | [], b, x => by simp [namesOk]
  | y :: xs, b, x => by
    rw [List.cons_append, namesOk, names_snoc xs true x, namesOk]
    simp [Bool.and_assoc]

theorem name_split (l : List UInt8) (h : isName l = true) : ∃ xs, allChar xs ∧ l = bytes xs ∧ xs ≠ [] ∧ isWord l = false ∧ namesOk false xs = true := by
  unfold isName at h
  simp only [Bool.and_eq_true, Bool.not_eq_true', decide_eq_true_eq] at h
  obtain ⟨⟨⟨h1, h2⟩, h3⟩, h4⟩ := h
  have h5 : badAt l l.length 0 = -1 := by
    rcases badAt_cases l l.length 0 with h | h
    · exact h
    · omega
  obtain ⟨xs, hx, he⟩ := none_bad l.length l 0 (by omega) h5
  rw [List.drop_zero] at he
  have hn := names_bytes xs [] l.length hx (by rw [he]; exact Nat.le_refl _)
  rw [List.nil_append, ← he] at hn
  simp only [List.length_nil] at hn
  rw [hn] at h4
  refine ⟨xs, hx, he, ?_, h2, h4⟩
  rintro rfl
  rw [he] at h1
  simp [bytes] at h1
theorem name_make (xs : List Int) (hx : allChar xs) (hne : xs ≠ []) : isName (bytes xs) = (!isWord (bytes xs) && namesOk false xs) := by
  unfold isName
  have hb := bad_none xs [] (bytes xs).length hx
  have hn := names_bytes xs [] (bytes xs).length hx (Nat.le_refl _)
  rw [List.nil_append, List.length_nil] at hb hn
  rw [hb, hn]
  have h1 : (bytes xs == []) = false := by
    cases xs with
    | nil => exact absurd rfl hne
    | cons y ys => have := form_ne y (hx y (by simp)); simp [bytes_cons, this]
  rw [h1]
  simp

/-- a word ends in a small letter -/
theorem word_end (l : List UInt8) (x : Int) (hx : isChar x = true) (h : isWord (l ++ form x) = true) : inside letters x = true := by
  have hw : words.all (fun w => match w.getLast? with | some b => decide (97 ≤ b.toNat) && decide (b.toNat ≤ 122) | none => false) = true := by decide +kernel
  have hm : (l ++ form x) ∈ words := by simpa [isWord] using h
  have := List.all_eq_true.1 hw _ hm
  have hf : form x = Lib.encodeRune x := by simp [form, hx]
  have hc := hx
  unfold isChar at hc
  rw [decide_eq_true_eq] at hc
  rw [hf] at this
  unfold Lib.encodeRune at this
  by_cases h1 : x ≤ 127
  · rw [Lib.encodeRuneZ_one (by omega) h1] at this
    simp at this
    have h2 : x.toNat % 256 = x.toNat := by omega
    rw [h2] at this
    simp [inside, letters]
    omega
  · exfalso
    by_cases h2 : x ≤ 2047
    · rw [Lib.encodeRuneZ_two (by omega) h2] at this
      simp at this
      omega
    · by_cases h3 : x ≤ 65535
      · rw [Lib.encodeRuneZ_three (by omega)] at this
        simp at this
        omega
      · rw [Lib.encodeRuneZ_four (by omega) (by omega)] at this
        simp at this
        omega

/-- what string(r) is: r, or U+FFFD -/
def shown (r : Int) : Int := if isChar r = true then r else 65533
theorem shown_char (r : Int) : isChar (shown r) = true := by
  unfold shown; split
  · assumption
  · rfl
theorem letters_char (r : Int) (h : isChar r = false) : inside letters r = false ∧ inside digits r = false := by
  unfold isChar at h
  rw [decide_eq_false_iff_not] at h
  constructor
  · simp [inside, letters]; omega
  · simp [inside, digits]; omega
theorem longer (l : List UInt8) (r : Int) (h : isName l = true) : (isName (l ++ form (shown r)) || isWord (l ++ form (shown r))) = (inside letters r || inside digits r) := by
  obtain ⟨xs, hx, rfl, hne, hw, hn⟩ := name_split l h
  have hs := shown_char r
  have hall : allChar (xs ++ [shown r]) := by
    intro y hy
    rcases List.mem_append.1 hy with hy | hy
    · exact hx y hy
    · simp at hy; subst hy; exact hs
  have hm := name_make (xs ++ [shown r]) hall (by simp)
  rw [bytes_append, bytes_one, names_snoc, hn] at hm
  have hxe : (xs == []) = false := by simpa using hne
  rw [hm, hxe]
  have hlr : (inside letters (shown r) || inside digits (shown r)) = (inside letters r || inside digits r) := by
    unfold shown
    cases hc : isChar r with
    | true => simp
    | false =>
      obtain ⟨a, b⟩ := letters_char r hc
      rw [a, b]
      simp only [Bool.false_eq_true, if_false]
      decide +kernel
  cases hwt : isWord (bytes xs ++ form (shown r)) with
  | true =>
    have := word_end _ _ hs hwt
    rw [this] at hlr
    simp only [Bool.true_or] at hlr
    rw [← hlr]; simp
  | false =>
    rw [← hlr]; simp
end Go.Proofs.YtoffjpgobhcipaaGreatDoor.Cls

/-
  Contract of runes.All: the characters of a text as a slice of the call's own.
-/
namespace Go.Proofs.YtoffjpgobhcipaaGreatDoor.Cls
open Go.ChangeShapes Go.WideShapes Go.ChangeAt Go.RowKit
open Go.Lib (decodeL)

theorem info21 : (Tryz.prog.info? 21).map (fun i => (i.zero, i.size, i.bytes)) = some (some (.int .i32 0), 1, 4) := by kernel_rfl
theorem grown_of_below {w w' : World} (h : Below w.heap.size w w') : w.grownBy w' none := ⟨h.os, h.tape, h.output, h.size, fun k hk _ => h.block k hk⟩
theorem owns_below {w w' : World} {base : Nat} {e : TypeId} {size : Nat} {v : Value} {n : Nat} {xs : List Value} (h : w.ownsRow base e size v n xs) (hB : Below w.heap.size w w') : w'.ownsRow base e size v n xs :=
  h.kept (grown_of_below hB) (by cases v.ownBlock <;> simp)

/-- one character of a text of characters -/
theorem bytes_at (xs : List Int) (k : Nat) (x : Int) (hk : xs[k]? = some x) : (bytes xs).drop (bytes (xs.take k)).length = form x ++ bytes (xs.drop (k + 1)) := by
  obtain ⟨h1, h2⟩ := List.getElem?_eq_some_iff.mp hk
  have : xs = xs.take k ++ x :: xs.drop (k + 1) := by
    rw [← h2, ← List.drop_eq_getElem_cons h1, List.take_append_drop]
  have hb : bytes xs = bytes (xs.take k) ++ (form x ++ bytes (xs.drop (k + 1))) := by
    rw [← bytes_cons, ← bytes_append, ← this]
  rw [hb, List.drop_left]
theorem bytes_take (xs : List Int) (k : Nat) (x : Int) (hk : xs[k]? = some x) : (bytes (xs.take (k + 1))).length = (bytes (xs.take k)).length + (form x).length := by
  obtain ⟨h1, h2⟩ := List.getElem?_eq_some_iff.mp hk
  rw [List.take_succ_eq_append_getElem h1, h2, bytes_append, List.length_append, bytes_one]
theorem bytes_take_le (xs : List Int) (k : Nat) : (bytes (xs.take k)).length ≤ (bytes xs).length := by
  have : bytes xs = bytes (xs.take k) ++ bytes (xs.drop k) := by rw [← bytes_append, List.take_append_drop]
  rw [this]; simp
theorem count_le : ∀ (xs : List Int), allChar xs → xs.length ≤ (bytes xs).length
  | [], _ => by simp
  | x :: xs, h => by
    have h1 := form_len x (h x (by simp))
    have h2 := count_le xs (fun y hy => h y (by simp [hy]))
    rw [bytes_cons, List.length_append, List.length_cons]; omega

theorem one_new (w : World) (x : Value) (t : TypeId) : ∀ j u, [x][j]? = some u → (w.alloc (.cells #[x] t)).cell? ((⟨w.heap.size, 0, none⟩ : Addr).add j) = some u := by
  intro j u hj
  match j, hj with
  | 0, hj => simp at hj; subst hj; simp [Addr.add]
  | j + 1, hj => simp at hj

end Go.Proofs.YtoffjpgobhcipaaGreatDoor.Cls

/-
  Contracts of the document's Bad and All for layer 1.
-/
namespace Go.Proofs.YtoffjpgobhcipaaGreatDoor.Cls
open Go.ChangeShapes Go.WideShapes Go.ChangeAt Go.RowKit
open Go.Lib (decodeL)

theorem info2 : (Tryz.prog.info? 2).map (fun i => (i.zero, i.size, i.bytes)) = some (some (.int .i64 0), 1, 8) := by kernel_rfl
/-- what the document's All leaves -/
def RAllLeaves (base : Nat) (xs : List Int) (e : Ending) (w' : World) : Prop :=
  ∃ v, e = .returned (.tuple #[v, .bool true]) ∧ w'.ownsRow base 2 1 v xs.length (xs.map (Value.int .i64))
set_option maxHeartbeats 1000000 in
theorem rall_good (s : ByteArray) (xs : List Int) (hx : allChar xs) (hsx : s.data.toList = bytes xs) (hs : s.size ≤ 1048576) (w : World) :
    Calls Tryz.prog 73 #[.string s] w fun e w' => RAllLeaves w.heap.size xs e w' ∧ Below w.heap.size w w' := by
  have hs' : s.size ≤ maxLen := by unfold maxLen; omega
  have hsl : s.size = (bytes xs).length := by rw [← hsx]; rfl
  have hcl := count_le xs hx
  have hcl2 : xs.length ≤ 1048576 := by omega
  obtain ⟨i0, hi, hz0, hz1, hz2⟩ := info_parts info2
  have HSX := Lib.hid hsx
  have HSL := Lib.hid hsl
  clear hsx hsl
  go_enter Tryz.func73, Tryz.ntmps73
  go_wp2
  go_loopw [4, 5] (fun v i wr => ∃ (k pos : Nat), k ≤ xs.length ∧ i = .int .i64 pos ∧ Hid (pos = (bytes (xs.take k)).length) ∧ Below w.heap.size w wr ∧ wr.ownsRow w.heap.size 2 1 v k ((xs.take k).map (Value.int .i64))) (fun _ i _ => s.size - (intOf i).toNat)
  case atStart => exact ⟨0, 0, Nat.zero_le _, rfl, Lib.hid rfl, Below.refl _ _, World.ownsRow_nil _ _ _ _⟩
  case round =>
    obtain ⟨k, pos, hk, rfl, HP, hB, hown⟩ := hrel
    by_cases hlt : k < xs.length
    · obtain ⟨x, hxk⟩ : ∃ x, xs[k]? = some x := ⟨xs[k], List.getElem?_eq_getElem hlt⟩
      have hxc : isChar x = true := hx x (List.mem_of_getElem? hxk)
      have hdr : s.data.toList.drop pos = form x ++ bytes (xs.drop (k + 1)) := by rw [HSX.out, HP.out]; exact bytes_at xs k x hxk
      have hp : pos < s.size := by
        have := congrArg List.length hdr
        have h1 := form_len x hxc
        simp at this
        have h2 : s.size = s.data.size := rfl
        omega
      have hr := fun w => rread_in s pos w hs' hp
      have hc1 : chr (s.data.toList.drop pos) = x := by
        rw [hdr]; unfold chr
        rw [if_neg (by simp [form_good x _ hxc, form_ne x hxc])]
        exact chr_bytes x _ hxc
      have hn1 : wide (s.data.toList.drop pos) = (form x).length := by rw [hdr]; exact wide_bytes x _ hxc
      obtain ⟨n, hn⟩ : ∃ n, n = (form x).length := ⟨_, rfl⟩
      rw [hc1, hn1, ← hn] at hr
      have hnl := form_len x hxc
      have hnp : pos + n = (bytes (xs.take (k + 1))).length := by rw [bytes_take xs k x hxk, hn, HP.out]
      have hle := bytes_take_le xs (k + 1)
      have hn0 : 1 ≤ n := by omega
      have hn4 : n ≤ 4 := by omega
      have hk20 : k + 1 ≤ 1048576 := by omega
      have HS := Lib.hid (And.intro hxk hnp)
      clear hxk hdr hc1 hn1 hnp hle hn hnl
      go_wp2_with (first
        | (go_at_call 92; refine (hr _).mono ?_; rintro e w1 ⟨rfl, hB1⟩; have hown1 := owns_below hown hB1; have hB2 := hB.trans (hB1.mono hB.size); clear hown hB1 hB)
        | (at_builtin; refine wpList_append_own _ rfl _ _ 93 rfl w.heap.size 2 i0 (.int .i64 0) 1 8 Tryz.underlying93 hi hz0 hz1 hz2 rfl (by decide) _ _ _ rfl (hown1.alloc _) ⟨w1.heap.size, 0, none⟩ 1 1 [.int .i64 x] rfl rfl ?c1 ?c2 ?c3 ?c4 ?c5 ?_))
      case c1 => exact one_new _ _ _
      case c2 => intro u hu; simp at hu; subst hu; rfl
      case c3 => unfold maxLen; omega
      case c4 => omega
      case c5 => have := hB2.size; simp; omega
      · intro v' w3 hown' hgrow _
        simp only [← List.map_take] at hown'
        have hB3 : Below w.heap.size w w3 := (hB2.alloc hB2.size _).grown hgrow (by have := hB2.size; simp; omega) (fun q hq => (hown1.lt q hq).1)
        clear hgrow hown1
        go_wp2
        go_roundw
        case rel =>
          refine ⟨k + 1, pos + n, by omega, by go_num, HS.out.2, hB3, ?_⟩
          obtain ⟨h3, h4⟩ := List.getElem?_eq_some_iff.mp HS.out.1
          rw [List.take_succ_eq_append_getElem h3, h4, List.map_append]
          exact hown'
        case measure => simp [intOf]; omega
    · have hke : k = xs.length := by omega
      have hpe : pos = s.size := by have h1 := HP.out; rw [hke, List.take_length] at h1; have := HSL.out; omega
      subst hke
      rw [List.take_length] at hown
      subst hpe
      go_wp2
      go_ret2
      exact ⟨⟨_, rfl, hown⟩, hB⟩
set_option maxHeartbeats 1000000 in
theorem rall_bad (s : ByteArray) (hs : s.size ≤ 1048576) (hbad : 0 ≤ badAt s.data.toList s.size 0) (w : World) :
    Calls Tryz.prog 73 #[.string s] w fun e w' => e = .returned (.tuple #[.slice none 0 0, .bool false]) ∧ Below w.heap.size w w' := by
  have hs' : s.size ≤ maxLen := by unfold maxLen; omega
  obtain ⟨i0, hi, hz0, hz1, hz2⟩ := info_parts info2
  have HBAD := Lib.hid hbad
  clear hbad
  go_enter Tryz.func73, Tryz.ntmps73
  go_wp2
  go_loopw [4, 5] (fun v i wr => ∃ (pos f n : Nat) (vs : List Value), i = .int .i64 pos ∧ Below w.heap.size w wr ∧ wr.ownsRow w.heap.size 2 1 v n vs ∧ n ≤ pos ∧ Hid (badAt s.data.toList f pos = badAt s.data.toList s.size 0) ∧ s.size ≤ pos + f ∧ pos ≤ s.size) (fun _ i _ => s.size - (intOf i).toNat)
  case atStart => exact ⟨0, s.size, 0, [], rfl, Below.refl _ _, World.ownsRow_nil _ _ _ _, by omega, Lib.hid rfl, by omega, by omega⟩
  case round =>
    obtain ⟨pos, f, n, vs, rfl, hB, hown, hnpos, HR, hf, hps⟩ := hrel
    by_cases hp : pos < s.size
    · have hne := drop_ne s pos hp
      have hwl := wide_le (s.data.toList.drop pos)
      obtain ⟨g, rfl⟩ : ∃ g, f = g + 1 := ⟨f - 1, by omega⟩
      obtain ⟨c, hc⟩ : ∃ c, c = chr (s.data.toList.drop pos) := ⟨_, rfl⟩
      obtain ⟨m, hm⟩ : ∃ m, m = wide (s.data.toList.drop pos) := ⟨_, rfl⟩
      have hr := fun w => rread_in s pos w hs' hp
      rw [← hc, ← hm] at hr
      have hm4 : m ≤ 4 := by omega
      have hnl : pos + m ≤ s.size := by
        have h1 := hwl.2
        simp at h1
        have h2 : s.size = s.data.size := rfl
        omega
      have HM := Lib.hid hm
      cases hb : isBad (s.data.toList.drop pos) with
      | true =>
        have h0 : m = 0 := by rw [hm]; simp [wide, hb]
        subst h0
        clear hb hm hc hwl
        go_wp2_with (first | (go_at_call 92; refine (hr _).mono ?_; rintro e w' ⟨rfl, hB2⟩))
        go_ret2
        exact ⟨rfl, hB.trans (hB2.mono hB.size)⟩
      | false =>
        have h0 : 1 ≤ m := by rw [hm, wide_good _ hne hb]; exact (good_width _ hne).1
        have HB := Lib.hid hb
        clear hb hm hc hwl
        go_wp2_with (first
          | (go_at_call 92; refine (hr _).mono ?_; rintro e w1 ⟨rfl, hB1⟩; have hown1 := owns_below hown hB1; have hB2 := hB.trans (hB1.mono hB.size); clear hown hB1 hB)
          | (at_builtin; refine wpList_append_own _ rfl _ _ 93 rfl w.heap.size 2 i0 (.int .i64 0) 1 8 Tryz.underlying93 hi hz0 hz1 hz2 rfl (by decide) _ _ _ rfl (hown1.alloc _) ⟨w1.heap.size, 0, none⟩ 1 1 [.int .i64 c] rfl rfl ?c1 ?c2 ?c3 ?c4 ?c5 ?_))
        case c1 => exact one_new _ _ _
        case c2 => intro u hu; simp at hu; subst hu; rfl
        case c3 => unfold maxLen; omega
        case c4 => omega
        case c5 => have := hB2.size; simp; omega
        · intro v' w3 hown' hgrow _
          have hB3 : Below w.heap.size w w3 := (hB2.alloc hB2.size _).grown hgrow (by have := hB2.size; simp; omega) (fun q hq => (hown1.lt q hq).1)
          clear hgrow hown1
          go_wp2
          go_roundw
          case rel => exact ⟨pos + m, g, _, _, by go_num, hB3, hown', by omega, Lib.hid (by rw [← HR.out]; simp [badAt, hp, HB.out, ← HM.out]), by omega, by omega⟩
          case measure => simp [intOf]; omega
    · exfalso
      have h1 := HR.out
      rw [badAt_end _ _ _ (by simpa using hp)] at h1
      have h2 := HBAD.out
      omega
end Go.Proofs.YtoffjpgobhcipaaGreatDoor.Cls

/-
  The comparison of characters with the document's, and the statement RunesBad walked.
-/
namespace Go.Proofs.YtoffjpgobhcipaaGreatDoor.Cls
open Go.ChangeShapes Go.WideShapes Go.ChangeAt Go.RowKit
open Go.Lib (decodeL)

theorem below_chain {a b c : World} (h : Below a.heap.size a b) (k : Below b.heap.size b c) : Below a.heap.size a c := h.trans (k.mono h.size)
theorem cell_lt {w : World} {a : Addr} {v : Value} (h : w.cell? a = some v) : a.block < w.heap.size := by
  unfold World.cell? at h
  cases hb : w.heap[a.block]? with
  | none => rw [hb] at h; cases h
  | some o => exact (Array.getElem?_eq_some_iff.1 hb).1
/-- a slice that reads as numbers -/
def Reads (K : IntKind) (w : World) (v : Value) (xs : List Int) : Prop :=
  ∃ a cap, v = .slice a xs.length cap ∧ ∀ k x, xs[k]? = some x → ∃ g, a = some ⟨g, 0, none⟩ ∧ w.cell? ⟨g, k, none⟩ = some (.int K x)
theorem reads_of {K : IntKind} {w : World} {base : Nat} {e : TypeId} {v : Value} {xs : List Int} (h : w.ownsRow base e 1 v xs.length (xs.map (Value.int K))) : Reads K w v xs := by
  rcases h.2 with ⟨rfl, h0⟩ | ⟨g, cap, cur, rfl, _⟩
  · have : xs = [] := List.length_eq_zero_iff.1 h0
    subst this
    exact ⟨none, 0, rfl, fun k x hk => by simp at hk⟩
  · refine ⟨_, cap, rfl, fun k x hk => ⟨g, rfl, ?_⟩⟩
    have := h.cells (g := g) rfl k (.int K x) (by simp [hk])
    have ha : (⟨g, 0, none⟩ : Addr).add k = ⟨g, k, none⟩ := by unfold Addr.add; split <;> simp_all
    rwa [ha] at this
theorem reads_below {K : IntKind} {w w' : World} {v : Value} {xs : List Int} (h : Reads K w v xs) (hB : Below w.heap.size w w') : Reads K w' v xs := by
  obtain ⟨a, cap, rfl, hc⟩ := h
  refine ⟨a, cap, rfl, fun k x hk => ?_⟩
  obtain ⟨g, hg, hcell⟩ := hc k x hk
  exact ⟨g, hg, (hB.cell (p := ⟨g, k, none⟩) (cell_lt hcell)).trans hcell⟩

/-- EVERY TEXT IS ONE OF CHARACTERS, OR HAS A FIRST BAD PLACE. -/
theorem text_cases (s : ByteArray) : (∃ xs, allChar xs ∧ s.data.toList = bytes xs ∧ badAt s.data.toList s.size 0 = -1) ∨ 0 ≤ badAt s.data.toList s.size 0 := by
  rcases badAt_cases s.data.toList s.size 0 with h | h
  · obtain ⟨xs, hx, he⟩ := none_bad s.size s.data.toList 0 (by simp) h
    exact .inl ⟨xs, hx, by simpa using he, h⟩
  · exact .inr h
end Go.Proofs.YtoffjpgobhcipaaGreatDoor.Cls

/-
  The document's Name, and the statement ClassNames walked.
-/
namespace Go.Proofs.YtoffjpgobhcipaaGreatDoor.Cls
open Go.ChangeShapes Go.WideShapes Go.ChangeAt Go.RowKit

theorem letter_ref {r : Int} {v : Bool} (h : inside letters r = v) (w : World) : Calls Tryz.prog 75 #[.int .i64 r] w fun e w' => e = .returned (.bool v) ∧ Below w.heap.size w w' := by
  have := rletter_any r w; rw [h] at this; exact this
theorem digit_ref {r : Int} {v : Bool} (h : inside digits r = v) (w : World) : Calls Tryz.prog 76 #[.int .i64 r] w fun e w' => e = .returned (.bool v) ∧ Below w.heap.size w w' := by
  have := rdigit_any r w; rw [h] at this; exact this

theorem rname_bad (s : ByteArray) (hs : s.size ≤ 1048576) (hbad : 0 ≤ badAt s.data.toList s.size 0) (w : World) :
    Calls Tryz.prog 55 #[.string s] w fun e w' => e = .returned (.bool false) ∧ Below w.heap.size w w' := by
  have hra := fun w => rall_bad s hs hbad w
  clear hbad
  have hA : Below w.heap.size w w := Below.refl _ _
  go_enter Tryz.func55, Tryz.ntmps55
  go_wp2_with (first
    | (go_at_call 73; refine (hra _).mono ?_; rintro e w2 ⟨rfl, hB⟩; replace hA := below_chain hA hB; clear hB))
  go_ret
  exact ⟨rfl, hA⟩
theorem rname_nil (s : ByteArray) (hs : s.size ≤ 1048576) (hsx : s.data.toList = bytes []) (w : World) :
    Calls Tryz.prog 55 #[.string s] w fun e w' => e = .returned (.bool false) ∧ Below w.heap.size w w' := by
  have hra := fun w => rall_good s [] (fun _ h => by simp at h) hsx hs w
  clear hsx
  have hA : Below w.heap.size w w := Below.refl _ _
  go_enter Tryz.func55, Tryz.ntmps55
  go_wp2_with (first
    | (go_at_call 73; refine (hra _).mono ?_; rintro e w2 ⟨⟨v, rfl, o⟩, hB⟩; obtain ⟨a, cap, rfl, _⟩ := reads_of o; replace hA := below_chain hA hB; clear hB o))
  go_ret
  exact ⟨rfl, hA⟩
theorem rname_word (s : ByteArray) (x : Int) (xs : List Int) (hx : allChar (x :: xs)) (hsx : s.data.toList = bytes (x :: xs)) (hs : s.size ≤ 1048576) (hw : isWord s.data.toList = true) (hlen : xs.length + 1 ≤ 1048576) (w : World) :
    Calls Tryz.prog 55 #[.string s] w fun e w' => e = .returned (.bool false) ∧ Below w.heap.size w w' := by
  have hra := fun w => rall_good s (x :: xs) hx hsx hs w
  have HW := Lib.hid hw
  clear hsx hw
  have hA : Below w.heap.size w w := Below.refl _ _
  go_enter Tryz.func55, Tryz.ntmps55
  go_wp2_with (first
    | (go_at_call 73; refine (hra _).mono ?_; rintro e w2 ⟨⟨v, rfl, o⟩, hB⟩; obtain ⟨a, cap, rfl, _⟩ := reads_of o; replace hA := below_chain hA hB; clear hB o)
    | (go_at_call 74; refine (rword_any s _).mono ?_; rintro e w3 ⟨rfl, hB⟩; rw [HW.out]; replace hA := below_chain hA hB; clear hB))
  go_ret
  exact ⟨rfl, hA⟩
theorem reads_first {K : IntKind} {w : World} {v : Value} {x : Int} {xs : List Int} (h : Reads K w v (x :: xs)) : ∃ g cap, v = .slice (some ⟨g, 0, none⟩) (xs.length + 1) cap ∧ ∀ k y, (x :: xs)[k]? = some y → w.cell? ⟨g, k, none⟩ = some (.int K y) := by
  obtain ⟨a, cap, rfl, hc⟩ := h
  obtain ⟨g, rfl, _⟩ := hc 0 x (by simp)
  refine ⟨g, cap, rfl, fun k y hk => ?_⟩
  obtain ⟨g', hg, hcell⟩ := hc k y hk
  simp only [Option.some.injEq, Addr.mk.injEq, and_true] at hg
  subst hg
  exact hcell
theorem rname_first (s : ByteArray) (x : Int) (xs : List Int) (hx : allChar (x :: xs)) (hsx : s.data.toList = bytes (x :: xs)) (hs : s.size ≤ 1048576) (hw : isWord s.data.toList = false) (hlen : xs.length + 1 ≤ 1048576) (hl : inside letters x = false) (w : World) :
    Calls Tryz.prog 55 #[.string s] w fun e w' => e = .returned (.bool false) ∧ Below w.heap.size w w' := by
  have hra := fun w => rall_good s (x :: xs) hx hsx hs w
  have hL := fun w => letter_ref hl w
  have HW := Lib.hid hw
  clear hsx hw hl
  have hA : Below w.heap.size w w := Below.refl _ _
  go_enter Tryz.func55, Tryz.ntmps55
  go_wp2_with (first
    | (go_at_call 73; refine (hra _).mono ?_; rintro e w2 ⟨⟨v, rfl, o⟩, hB⟩; obtain ⟨g, cap, rfl, hc⟩ := reads_first (reads_of o); replace hA := below_chain hA hB; have c0 := hc 0 x rfl; clear hB o)
    | (go_at_call 74; refine (rword_any s _).mono ?_; rintro e w3 ⟨rfl, hB⟩; rw [HW.out]; replace hA := below_chain hA hB; have c1 := (hB.cell (p := ⟨g, 0, none⟩) (cell_lt c0)).trans c0; clear hB)
    | (go_at_call 75; (with_reducible refine (hL _).mono ?_); rintro e w4 ⟨rfl, hB⟩; replace hA := below_chain hA hB; clear hB))
  go_ret
  exact ⟨rfl, hA⟩
/-- a letter or a digit -/
def okc (r : Int) : Bool := inside letters r || inside digits r
theorem all_at (l : List Int) (k : Nat) (y : Int) (h : l[k]? = some y) : (l.drop k).all okc = (okc y && (l.drop (k + 1)).all okc) := by
  obtain ⟨hk, he⟩ := List.getElem?_eq_some_iff.mp h
  rw [List.drop_eq_getElem_cons hk, he, List.all_cons]
set_option maxHeartbeats 2000000 in
theorem rname_loop (s : ByteArray) (x : Int) (xs l : List Int) (hxl : x :: xs = l) (hx : allChar l) (hsx : s.data.toList = bytes l) (hs : s.size ≤ 1048576) (hw : isWord s.data.toList = false) (hlen : l.length ≤ 1048576) (hl : inside letters x = true) (w : World) :
    Calls Tryz.prog 55 #[.string s] w fun e w' => e = .returned (.bool (l.all okc)) ∧ Below w.heap.size w w' := by
  have hra := fun w => rall_good s l hx hsx hs w
  have hL := fun w => letter_ref hl w
  have HW := Lib.hid hw
  have HXL := Lib.hid hxl
  have hln : xs.length + 1 = l.length := by rw [← hxl]; rfl
  obtain ⟨n, hn⟩ : ∃ n, n = l.length := ⟨_, rfl⟩
  rw [← hn] at hln hlen
  have HLN := Lib.hid hln
  have HNL := Lib.hid hn
  have hl0 : ((n : Int) == 0) = false := by rw [beq_eq_false_iff_ne]; omega
  have hlp : 0 < n := by omega
  clear hsx hw hl hxl hln hn
  have hA : Below w.heap.size w w := Below.refl _ _
  go_enter Tryz.func55, Tryz.ntmps55
  go_wp2_with (first
    | (go_at_call 73; refine (hra _).mono ?_; rintro e w2 ⟨⟨v, rfl, o⟩, hB⟩; have rd := reads_of o; rw [← HXL.out] at rd; obtain ⟨g, cap, rfl, hc⟩ := reads_first rd; rw [HLN.out]; replace hA := below_chain hA hB; have c0 := hc 0 x rfl; clear hB o rd)
    | (go_at_call 74; refine (rword_any s _).mono ?_; rintro e w3 ⟨rfl, hB⟩; rw [HW.out]; replace hA := below_chain hA hB; have c1 := (hB.cell (p := ⟨g, 0, none⟩) (cell_lt c0)).trans c0; have hc3 : ∀ k y, (x :: xs)[k]? = some y → w3.cell? ⟨g, k, none⟩ = some (.int .i64 y) := (fun k y hk => (hB.cell (p := ⟨g, k, none⟩) (cell_lt (hc k y hk))).trans (hc k y hk)); clear hB hc)
    | (go_at_call 75; (with_reducible refine (hL _).mono ?_); rintro e w4 ⟨rfl, hB⟩; replace hA := below_chain hA hB; have hc4 : ∀ k y, (x :: xs)[k]? = some y → w4.cell? ⟨g, k, none⟩ = some (.int .i64 y) := (fun k y hk => (hB.cell (p := ⟨g, k, none⟩) (cell_lt (hc3 k y hk))).trans (hc3 k y hk)); clear hB hc3 c0 c1))
  go_loopw [5] (fun i wr => ∃ k : Nat, k ≤ n ∧ i = .int .i64 k ∧ Below w4.heap.size w4 wr ∧ Hid (l.all okc = (l.drop k).all okc)) (fun i _ => n - (intOf i).toNat)
  case atStart => exact ⟨0, Nat.zero_le _, rfl, Below.refl _ _, Lib.hid (by simp)⟩
  case round =>
    obtain ⟨k, hk, rfl, hB, HR⟩ := hrel
    by_cases hlt : k < n
    · obtain ⟨y, hy⟩ : ∃ y, l[k]? = some y := ⟨l[k]'(by have := HNL.out; omega), List.getElem?_eq_getElem (by have := HNL.out; omega)⟩
      have HY := Lib.hid (all_at l k y hy)
      have c4 := hc4 k y (by rw [HXL.out]; exact hy)
      have c := (hB.cell (p := ⟨g, k, none⟩) (cell_lt c4)).trans c4
      clear hy c4 hc4
      have hB0 : Below wr.heap.size wr wr := Below.refl _ _
      cases h1 : inside letters y with
      | true =>
        have L1 := fun w => letter_ref h1 w
        have H1 := Lib.hid h1
        clear h1
        go_wp2_with (first
          | (go_at_call 75; (with_reducible refine (L1 _).mono ?_); rintro e w5 ⟨rfl, hB5⟩))
        go_roundw
        case rel => exact ⟨k + 1, by omega, by go_num, hB.trans (hB5.mono hB.size), Lib.hid (by rw [HR.out, HY.out]; simp [okc, H1.out])⟩
        case measure => simp [intOf]; omega
      | false =>
        have L1 := fun w => letter_ref h1 w
        have H1 := Lib.hid h1
        clear h1
        cases h2 : inside digits y with
        | true =>
          have D1 := fun w => digit_ref h2 w
          have H2 := Lib.hid h2
          clear h2
          go_wp2_with (first
            | (go_at_call 75; (with_reducible refine (L1 _).mono ?_); rintro e w5 ⟨rfl, hB5⟩; have c5 := (hB5.cell (p := ⟨g, k, none⟩) (cell_lt c)).trans c)
            | (go_at_call 76; (with_reducible refine (D1 _).mono ?_); rintro e w6 ⟨rfl, hB6⟩))
          go_roundw
          case rel => exact ⟨k + 1, by omega, by go_num, hB.trans ((below_chain hB5 hB6).mono hB.size), Lib.hid (by rw [HR.out, HY.out]; simp [okc, H2.out])⟩
          case measure => simp [intOf]; omega
        | false =>
          have D1 := fun w => digit_ref h2 w
          have H2 := Lib.hid h2
          clear h2
          go_wp2_with (first
            | (go_at_call 75; (with_reducible refine (L1 _).mono ?_); rintro e w5 ⟨rfl, hB5⟩; have c5 := (hB5.cell (p := ⟨g, k, none⟩) (cell_lt c)).trans c)
            | (go_at_call 76; (with_reducible refine (D1 _).mono ?_); rintro e w6 ⟨rfl, hB6⟩))
          go_ret
          exact ⟨ret_bool (by rw [HR.out, HY.out]; simp [okc, H1.out, H2.out]), hA.trans ((hB.trans ((below_chain hB5 hB6).mono hB.size)).mono hA.size)⟩
    · have hke : k = n := by omega
      subst hke
      go_wp2
      go_ret
      exact ⟨ret_bool (by rw [HR.out, HNL.out, List.drop_length]; rfl), hA.trans (hB.mono hA.size)⟩
theorem names_true : ∀ xs : List Int, namesOk true xs = xs.all okc
  | [] => rfl
  | x :: xs => by rw [namesOk, names_true xs, List.all_cons]; simp [okc]
theorem rname_any (s : ByteArray) (hs : s.size ≤ 1048576) (w : World) :
    Calls Tryz.prog 55 #[.string s] w fun e w' => e = .returned (.bool (isName s.data.toList)) ∧ Below w.heap.size w w' := by
  rcases text_cases s with ⟨xs, hx, he, _⟩ | hb
  · have hlen : xs.length ≤ 1048576 := by
      have h1 := count_le xs hx
      have h2 : s.size = (bytes xs).length := by rw [← he]; rfl
      omega
    cases xs with
    | nil =>
      have : isName s.data.toList = false := by rw [he]; rfl
      rw [this]
      exact rname_nil s hs he w
    | cons x xs =>
      have hm := name_make (x :: xs) hx (by simp)
      cases hw : isWord s.data.toList with
      | true =>
        have : isName s.data.toList = false := by rw [he, hm, ← he, hw]; rfl
        rw [this]
        exact rname_word s x xs hx he hs hw hlen w
      | false =>
        cases hl : inside letters x with
        | false =>
          have : isName s.data.toList = false := by rw [he, hm, ← he, hw, namesOk, hl]; rfl
          rw [this]
          exact rname_first s x xs hx he hs hw hlen hl w
        | true =>
          have : isName s.data.toList = (x :: xs).all okc := by rw [he, hm, ← he, hw, namesOk, names_true, hl, List.all_cons]; simp [okc, hl]
          rw [this]
          exact rname_loop s x xs _ rfl hx he hs hw hlen hl w
  · have : isName s.data.toList = false := by
      unfold isName
      have h1 : decide (badAt s.data.toList s.data.toList.length 0 < 0) = false := by
        rw [decide_eq_false_iff_not]
        have h2 : s.data.toList.length = s.size := rfl
        rw [h2]; omega
      rw [h1]; simp
    rw [this]
    exact rname_bad s hs hb w
end Go.Proofs.YtoffjpgobhcipaaGreatDoor.Cls
