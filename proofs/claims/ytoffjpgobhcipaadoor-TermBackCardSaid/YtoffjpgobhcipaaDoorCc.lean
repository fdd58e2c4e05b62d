/-
  Texts L Chars S T U W of an earlier seat, under this one's numbers.
-/
import Derived.Test.YtoffjpgobhcipaaDoorCb
import Derived.Outline
import Derived.WalkSmall
import Derived.OwnWalk
import Derived.Laws.AppendOwn
import Derived.Deep.QuietTactic
import Derived.BigQuiet
set_option maxRecDepth 100000
/-
  Contract of class.Name.
-/
namespace Go.Proofs.YtoffjpgobhcipaaDoor.Cls
open Go.ChangeShapes Go.WideShapes Go.ChangeAt Go.RowKit
open Go.Lib (decodeL)

/-- from pos on there are letters, and digits that are not first -/
def namesAt (l : List UInt8) : Nat → Nat → Bool
  | 0, _ => true
  | f + 1, pos => if pos < l.length then (inside letters ((decodeL (l.drop pos)).1 : Int) || (pos != 0 && inside digits ((decodeL (l.drop pos)).1 : Int))) && namesAt l f (pos + (decodeL (l.drop pos)).2) else true
theorem namesAt_end (l : List UInt8) (f pos : Nat) (h : ¬ pos < l.length) : namesAt l f pos = true := by
  cases f with
  | zero => rfl
  | succ f => simp [namesAt, h]
def isName (l : List UInt8) : Bool := !(l == []) && !isWord l && decide (badAt l l.length 0 < 0) && namesAt l l.length 0
theorem badAt_cases (l : List UInt8) : ∀ f pos, badAt l f pos = -1 ∨ 0 ≤ badAt l f pos
  | 0, _ => .inl rfl
  | f + 1, pos => by
    unfold badAt
    split
    · split
      · exact .inr (by omega)
      · exact badAt_cases l f _
    · exact .inl rfl

theorem name_empty (w : World) :
    Calls Tryd.prog 39 #[.string ⟨#[]⟩] w fun e w' => e = .returned (.bool false) ∧ Below w.heap.size w w' := by
  go_enter Tryd.func39, Tryd.ntmps39
  go_wp2
  go_ret
  exact ⟨rfl, Below.refl _ _⟩
theorem name_word (s : ByteArray) (w : World) (he : (s.toList == []) = false) (h : isWord s.data.toList = true) :
    Calls Tryd.prog 39 #[.string s] w fun e w' => e = .returned (.bool false) ∧ Below w.heap.size w w' := by
  have hh := Lib.hid h
  clear h
  go_enter Tryd.func39, Tryd.ntmps39
  go_wp2_with (first | (go_at_call 48; refine (word_any s _).mono ?_; rintro e w' ⟨rfl, rfl⟩; rw [hh.out]))
  go_ret
  exact ⟨rfl, Below.refl _ _⟩
theorem name_bad (s : ByteArray) (w : World) (hs : s.size ≤ maxLen) (he : (s.toList == []) = false) (h : isWord s.data.toList = false) (hb : 0 ≤ badAt s.data.toList s.size 0) :
    Calls Tryd.prog 39 #[.string s] w fun e w' => e = .returned (.bool false) ∧ Below w.heap.size w w' := by
  have hh := Lib.hid h
  clear h
  obtain ⟨b, hbe⟩ : ∃ b, b = badAt s.data.toList s.size 0 := ⟨_, rfl⟩
  rw [← hbe] at hb
  have HB := Lib.hid hbe
  clear hbe
  go_enter Tryd.func39, Tryd.ntmps39
  go_wp2_with (first
    | (go_at_call 48; refine (word_any s _).mono ?_; rintro e w' ⟨rfl, rfl⟩; rw [hh.out])
    | (go_at_call 49; refine (bad_any s _ hs).mono ?_; rintro e w' ⟨rfl, hB⟩; rw [← HB.out]))
  go_ret
  exact ⟨rfl, hB⟩
set_option maxHeartbeats 2000000 in
theorem name_loop (s : ByteArray) (w : World) (hs : s.size ≤ maxLen) (he : (s.toList == []) = false) (h : isWord s.data.toList = false) (hb : badAt s.data.toList s.size 0 = -1) :
    Calls Tryd.prog 39 #[.string s] w fun e w' => e = .returned (.bool (namesAt s.data.toList s.size 0)) ∧ Below w.heap.size w w' := by
  have hh := Lib.hid h
  have HB := Lib.hid hb
  have hs' := hs
  unfold maxLen at hs
  clear h hb
  go_enter Tryd.func39, Tryd.ntmps39
  go_wp2_with (first
    | (go_at_call 48; refine (word_any s _).mono ?_; rintro e w' ⟨rfl, rfl⟩; rw [hh.out])
    | (go_at_call 49; refine (bad_any s _ hs').mono ?_; rintro e w1 ⟨rfl, hB1⟩; rw [HB.out]))
  obtain ⟨B, hBB⟩ : ∃ B, B = w1.heap.size := ⟨_, rfl⟩
  have HBB := Lib.hid hBB
  have hwB : w.heap.size ≤ B := by rw [hBB]; exact hB1.size
  clear hBB
  go_loopw [] (fun wr => ∃ (pos f : Nat), wr.heap[w1.heap.size]? = some (.stringIter s pos) ∧ Below w1.heap.size w1 wr ∧ Hid (namesAt s.data.toList f pos = namesAt s.data.toList s.size 0) ∧ s.size ≤ pos + f) (fun wr => s.size - wr.iterPos w1.heap.size)
  case atStart => exact ⟨0, s.size, World.iter_heap _ _ _, below_iter _ _ _, Lib.hid rfl, by omega⟩
  case round =>
    obtain ⟨pos, f, hit, hbw, HR, hf⟩ := hrel
    have hsz : w1.heap.size < wr.heap.size := (Array.getElem?_eq_some_iff.1 hit).1
    by_cases hp : pos < s.size
    · have hnx : ∀ ty, (Instr.next (.pointer (some ⟨w1.heap.size, 0, none⟩)) true ty).run Tryd.prog wr = _ := fun ty => Lib.run_next_any_at wr w1.heap.size s pos ty hit hp
      have hwd := width_pos' s pos hp
      obtain ⟨g, rfl⟩ : ∃ g, f = g + 1 := ⟨f - 1, by omega⟩
      obtain ⟨r, hr⟩ : ∃ r : Int, r = ((Utf8.decode s pos).1 : Int) := ⟨_, rfl⟩
      obtain ⟨nw, hnw⟩ : ∃ nw : Nat, nw = pos + (Utf8.decode s pos).2 := ⟨_, rfl⟩
      rw [← hr, ← hnw] at hnx
      have HS : Hid (namesAt s.data.toList (g + 1) pos = ((inside letters r || (pos != 0 && inside digits r)) && namesAt s.data.toList g nw)) := by
        show namesAt s.data.toList (g + 1) pos = _
        rw [hr, hnw, ← Lib.decodeL_drop]
        simp only [namesAt]
        rw [if_pos (by simpa using hp)]
      have hnw1 : pos < nw := by omega
      obtain ⟨w2, hw2⟩ : ∃ w2, w2 = wr.iterAt w1.heap.size s nw := ⟨_, rfl⟩
      have hit2 : w2.heap[w1.heap.size]? = some (.stringIter s nw) := by rw [hw2]; exact Lib.iterAt_heap wr w1.heap.size s pos nw hit
      have hbw2 : Below w1.heap.size w1 w2 := by rw [hw2]; exact Lib.below_iterAt hbw (k := w1.heap.size) (Nat.le_refl _) s nw
      have hsz2 : w1.heap.size < w2.heap.size := (Array.getElem?_eq_some_iff.1 hit2).1
      rw [← hw2] at hnx
      have HIP : Hid (wr.iterPos w1.heap.size = pos) := by show wr.iterPos _ = _; simp [World.iterPos, hit]
      clear hr hnw hwd hw2 hit hbw hsz
      cases hl : inside letters r with
      | true =>
        have HL := Lib.hid hl
        clear hl
        go_wp2_with (first | (go_at_call 50; refine (letter_any _ _).mono ?_; rintro e W3 ⟨rfl, hB3⟩; rw [HL.out]))
        go_roundw
        case rel =>
          have hh3 := hB3.block w1.heap.size hsz2
          exact ⟨nw, g, by rw [hh3]; exact hit2, hbw2.trans (hB3.mono (by omega)), Lib.hid (by rw [← HR.out, HS.out, HL.out]; simp), by omega⟩
        case measure =>
          have hh3 := hB3.block w1.heap.size hsz2
          have hi3 : W3.iterPos w1.heap.size = nw := by simp [World.iterPos, hh3, hit2]
          simp only [HIP.out, hi3]
          omega
      | false =>
        have HL := Lib.hid hl
        clear hl
        by_cases hp0 : pos = 0
        · subst hp0
          go_wp2_with (first | (go_at_call 50; refine (letter_any _ _).mono ?_; rintro e W3 ⟨rfl, hB3⟩; rw [HL.out]))
          go_ret
          exact ⟨ret_bool (by rw [← HR.out, HS.out, HL.out]; simp), hB1.trans ((hbw2.trans (hB3.mono (by omega))).mono (by have := HBB.out; omega))⟩
        · have hp1 : ((pos : Int) == 0) = false := by simpa using hp0
          cases hd : inside digits r with
          | true =>
            have HD := Lib.hid hd
            clear hd
            go_wp2_with (first
              | (go_at_call 50; refine (letter_any _ _).mono ?_; rintro e W3 ⟨rfl, hB3⟩; rw [HL.out])
              | (go_at_call 51; refine (digit_any _ _).mono ?_; rintro e W4 ⟨rfl, hB4⟩; rw [HD.out]))
            have hB5 := hB3.trans (hB4.mono hB3.size)
            go_roundw
            case rel =>
              have hh3 := hB5.block w1.heap.size hsz2
              exact ⟨nw, g, by rw [hh3]; exact hit2, hbw2.trans (hB5.mono (by omega)), Lib.hid (by rw [← HR.out, HS.out, HL.out, HD.out]; simp [hp0]), by omega⟩
            case measure =>
              have hh3 := hB5.block w1.heap.size hsz2
              have hi3 : W4.iterPos w1.heap.size = nw := by simp [World.iterPos, hh3, hit2]
              simp only [HIP.out, hi3]
              omega
          | false =>
            have HD := Lib.hid hd
            clear hd
            go_wp2_with (first
              | (go_at_call 50; refine (letter_any _ _).mono ?_; rintro e W3 ⟨rfl, hB3⟩; rw [HL.out])
              | (go_at_call 51; refine (digit_any _ _).mono ?_; rintro e W4 ⟨rfl, hB4⟩; rw [HD.out]))
            have hB5 := hB3.trans (hB4.mono hB3.size)
            go_ret
            exact ⟨ret_bool (by rw [← HR.out, HS.out, HL.out, HD.out]; simp), hB1.trans ((hbw2.trans (hB5.mono (by omega))).mono (by have := HBB.out; omega))⟩
    · have hnx : ∀ ty, (Instr.next (.pointer (some ⟨w1.heap.size, 0, none⟩)) true ty).run Tryd.prog wr = _ := fun ty => Lib.run_next_end_at wr w1.heap.size s pos ty hit hp
      go_wp2
      go_ret
      exact ⟨ret_bool (by rw [← HR.out, namesAt_end _ _ _ (by simpa using hp)]), hB1.trans (hbw.mono (by have := HBB.out; omega))⟩
theorem name_any (s : ByteArray) (w : World) (hs : s.size ≤ maxLen) :
    Calls Tryd.prog 39 #[.string s] w fun e w' => e = .returned (.bool (isName s.data.toList)) ∧ Below w.heap.size w w' := by
  have hsl : s.data.toList.length = s.size := rfl
  cases he : (s.data.toList == []) with
  | true =>
    have h0 : s.data.toList = [] := by simpa using he
    have hse : s = ⟨#[]⟩ := ba_of_list h0
    have hn : isName s.data.toList = false := by unfold isName; rw [he]; rfl
    rw [hn, hse]
    exact name_empty w
  | false =>
    have he' : (s.toList == []) = false := by rw [ByteArray.toList_eq]; exact he
    cases hw : isWord s.data.toList with
    | true =>
      have hn : isName s.data.toList = false := by unfold isName; rw [he, hw]; rfl
      rw [hn]
      exact name_word s w he' hw
    | false =>
      rcases badAt_cases s.data.toList s.size 0 with hb | hb
      · have hn : isName s.data.toList = namesAt s.data.toList s.size 0 := by unfold isName; rw [he, hw, hsl, hb]; simp
        rw [hn]
        exact name_loop s w hs he' hw hb
      · have hn : isName s.data.toList = false := by
          unfold isName
          rw [he, hw, hsl]
          have : decide (badAt s.data.toList s.size 0 < 0) = false := by rw [decide_eq_false_iff_not]; omega
          rw [this]; rfl
        rw [hn]
        exact name_bad s w hs he' hw hb
end Go.Proofs.YtoffjpgobhcipaaDoor.Cls

/-
  Plain lists under the statements on whole texts: a text of characters is their forms, one behind the other.
-/
namespace Go.Proofs.YtoffjpgobhcipaaDoor.Cls
open Go.Lib (decodeL)

/-- characters as bytes -/
def bytes (xs : List Int) : List UInt8 := xs.flatMap form
/-- all are characters -/
def allChar (xs : List Int) : Prop := ∀ x ∈ xs, isChar x = true
theorem bytes_cons (x : Int) (xs : List Int) : bytes (x :: xs) = form x ++ bytes xs := rfl
theorem bytes_append (xs ys : List Int) : bytes (xs ++ ys) = bytes xs ++ bytes ys := by simp [bytes]
theorem bytes_one (x : Int) : bytes [x] = form x := by simp [bytes]
theorem form_ne (x : Int) (h : isChar x = true) : form x ≠ [] := by
  intro e; have := form_len x h; rw [e] at this; simp at this
theorem wide_bytes (x : Int) (t : List UInt8) (h : isChar x = true) : wide (form x ++ t) = (form x).length := by
  have hne : form x ++ t ≠ [] := by simp [form_ne x h]
  rw [wide_good _ hne (form_good x t h), decode_form x t h]
theorem chr_bytes (x : Int) (t : List UInt8) (h : isChar x = true) : ((decodeL (form x ++ t)).1 : Int) = x := by
  rw [decode_form x t h]
  unfold isChar at h
  rw [decide_eq_true_eq] at h
  simp; omega

theorem bad_none : ∀ (xs : List Int) (pre : List UInt8) (f : Nat), allChar xs → badAt (pre ++ bytes xs) f pre.length = -1
  | [], pre, f, _ => by rw [badAt_end]; simp [bytes]
  | x :: xs, pre, 0, _ => rfl
  | x :: xs, pre, f + 1, h => by
    have hx := h x (by simp)
    have hd : (pre ++ bytes (x :: xs)).drop pre.length = form x ++ bytes xs := by simp [bytes_cons]
    unfold badAt
    split
    · rw [hd, form_good x _ hx, wide_bytes x _ hx]
      have := bad_none xs (pre ++ form x) f (fun y hy => h y (by simp [hy]))
      simp only [List.length_append] at this
      rw [bytes_cons, ← List.append_assoc]
      simpa using this
    · rfl

/-- WHERE NONE IS BAD THE TEXT IS ONE OF CHARACTERS. -/
theorem none_bad : ∀ (f : Nat) (l : List UInt8) (pos : Nat), l.length ≤ pos + f → badAt l f pos = -1 → ∃ xs, allChar xs ∧ l.drop pos = bytes xs
  | 0, l, pos, hf, _ => ⟨[], fun _ h => by simp at h, by rw [List.drop_of_length_le (by omega)]; rfl⟩
  | f + 1, l, pos, hf, h => by
    by_cases hp : pos < l.length
    · have hne : l.drop pos ≠ [] := by intro e; have := congrArg List.length e; simp at this; omega
      unfold badAt at h
      rw [if_pos hp] at h
      cases hb : isBad (l.drop pos) with
      | true => rw [hb] at h; simp at h
      | false =>
        rw [hb] at h
        simp only [Bool.false_eq_true, if_false] at h
        have hw := good_width _ hne
        rw [wide_good _ hne hb] at h
        obtain ⟨xs, hx, he⟩ := none_bad f l (pos + (decodeL (l.drop pos)).2) (by omega) h
        refine ⟨((decodeL (l.drop pos)).1 : Int) :: xs, ?_, ?_⟩
        · intro y hy
          rcases List.mem_cons.1 hy with rfl | hy
          · exact good_char _ hne hb
          · exact hx y hy
        · rw [bytes_cons, ← he, good_form _ hne hb, ← List.drop_drop, List.take_append_drop]
    · exact ⟨[], fun _ h => by simp at h, by rw [List.drop_of_length_le (by omega)]; rfl⟩

/-- letters, and digits that are not first -/
def namesOk : Bool → List Int → Bool
  | _, [] => true
  | b, x :: xs => (inside letters x || (b && inside digits x)) && namesOk true xs
theorem names_bytes : ∀ (xs : List Int) (pre : List UInt8) (f : Nat), allChar xs → (bytes xs).length ≤ f → namesAt (pre ++ bytes xs) f pre.length = namesOk (pre.length != 0) xs
  | [], pre, f, _, _ => by rw [namesAt_end]; · rfl
                           · simp [bytes]
  | x :: xs, pre, 0, h, hf => by
    have := form_len x (h x (by simp))
    rw [bytes_cons, List.length_append] at hf
    omega
  | x :: xs, pre, f + 1, h, hf => by
    have hx := h x (by simp)
    have hl := form_len x hx
    have hd : (pre ++ bytes (x :: xs)).drop pre.length = form x ++ bytes xs := by simp [bytes_cons]
    have hfx : (bytes xs).length ≤ f := by
      have h0 : (bytes (x :: xs)).length = (form x).length + (bytes xs).length := by rw [bytes_cons, List.length_append]
      omega
    have hlen : pre.length < (pre ++ bytes (x :: xs)).length := by rw [bytes_cons, List.length_append, List.length_append]; omega
    unfold namesAt
    rw [if_pos hlen, hd, chr_bytes x _ hx, decode_form x _ hx]
    have := names_bytes xs (pre ++ form x) f (fun y hy => h y (by simp [hy])) hfx
    simp only [List.length_append] at this
    dsimp only
    rw [bytes_cons, ← List.append_assoc, this]
    have h1 : (pre.length + (form x).length != 0) = true := by rw [bne_iff_ne]; omega
    rw [h1]
    rfl
theorem names_snoc : ∀ (xs : List Int) (b : Bool) (x : Int), namesOk b (xs ++ [x]) = (namesOk b xs && (inside letters x || ((b || !(xs == [])) && inside digits x)))
  | [], b, x => by simp [namesOk]
  | y :: xs, b, x => by
    rw [List.cons_append, namesOk, names_snoc xs true x, namesOk]
    simp [Bool.and_assoc]

theorem name_split (l : List UInt8) (h : isName l = true) : ∃ xs, allChar xs ∧ l = bytes xs ∧ xs ≠ [] ∧ isWord l = false ∧ namesOk false xs = true := by
  unfold isName at h
  simp only [Bool.and_eq_true, Bool.not_eq_true', decide_eq_true_eq] at h
  obtain ⟨⟨⟨h1, h2⟩, h3⟩, h4⟩ := h
  have h5 : badAt l l.length 0 = -1 := by
    rcases badAt_cases l l.length 0 with h | h
    · exact h
    · omega
  obtain ⟨xs, hx, he⟩ := none_bad l.length l 0 (by omega) h5
  rw [List.drop_zero] at he
  have hn := names_bytes xs [] l.length hx (by rw [he]; exact Nat.le_refl _)
  rw [List.nil_append, ← he] at hn
  simp only [List.length_nil] at hn
  rw [hn] at h4
  refine ⟨xs, hx, he, ?_, h2, h4⟩
  rintro rfl
  rw [he] at h1
  simp [bytes] at h1
theorem name_make (xs : List Int) (hx : allChar xs) (hne : xs ≠ []) : isName (bytes xs) = (!isWord (bytes xs) && namesOk false xs) := by
  unfold isName
  have hb := bad_none xs [] (bytes xs).length hx
  have hn := names_bytes xs [] (bytes xs).length hx (Nat.le_refl _)
  rw [List.nil_append, List.length_nil] at hb hn
  rw [hb, hn]
  have h1 : (bytes xs == []) = false := by
    cases xs with
    | nil => exact absurd rfl hne
    | cons y ys => have := form_ne y (hx y (by simp)); simp [bytes_cons, this]
  rw [h1]
  simp

/-- a word ends in a small letter -/
theorem word_end (l : List UInt8) (x : Int) (hx : isChar x = true) (h : isWord (l ++ form x) = true) : inside letters x = true := by
  have hw : words.all (fun w => match w.getLast? with | some b => decide (97 ≤ b.toNat) && decide (b.toNat ≤ 122) | none => false) = true := by decide +kernel
  have hm : (l ++ form x) ∈ words := by simpa [isWord] using h
  have := List.all_eq_true.1 hw _ hm
  have hf : form x = Lib.encodeRune x := by simp [form, hx]
  have hc := hx
  unfold isChar at hc
  rw [decide_eq_true_eq] at hc
  rw [hf] at this
  unfold Lib.encodeRune at this
  by_cases h1 : x ≤ 127
  · rw [Lib.encodeRuneZ_one (by omega) h1] at this
    simp at this
    have h2 : x.toNat % 256 = x.toNat := by omega
    rw [h2] at this
    simp [inside, letters]
    omega
  · exfalso
    by_cases h2 : x ≤ 2047
    · rw [Lib.encodeRuneZ_two (by omega) h2] at this
      simp at this
      omega
    · by_cases h3 : x ≤ 65535
      · rw [Lib.encodeRuneZ_three (by omega)] at this
        simp at this
        omega
      · rw [Lib.encodeRuneZ_four (by omega) (by omega)] at this
        simp at this
        omega

/-- what string(r) is: r, or U+FFFD -/
def shown (r : Int) : Int := if isChar r = true then r else 65533
theorem shown_char (r : Int) : isChar (shown r) = true := by
  unfold shown; split
  · assumption
  · rfl
theorem letters_char (r : Int) (h : isChar r = false) : inside letters r = false ∧ inside digits r = false := by
  unfold isChar at h
  rw [decide_eq_false_iff_not] at h
  constructor
  · simp [inside, letters]; omega
  · simp [inside, digits]; omega
theorem longer (l : List UInt8) (r : Int) (h : isName l = true) : (isName (l ++ form (shown r)) || isWord (l ++ form (shown r))) = (inside letters r || inside digits r) := by
  obtain ⟨xs, hx, rfl, hne, hw, hn⟩ := name_split l h
  have hs := shown_char r
  have hall : allChar (xs ++ [shown r]) := by
    intro y hy
    rcases List.mem_append.1 hy with hy | hy
    · exact hx y hy
    · simp at hy; subst hy; exact hs
  have hm := name_make (xs ++ [shown r]) hall (by simp)
  rw [bytes_append, bytes_one, names_snoc, hn] at hm
  have hxe : (xs == []) = false := by simpa using hne
  rw [hm, hxe]
  have hlr : (inside letters (shown r) || inside digits (shown r)) = (inside letters r || inside digits r) := by
    unfold shown
    cases hc : isChar r with
    | true => simp
    | false =>
      obtain ⟨a, b⟩ := letters_char r hc
      rw [a, b]
      simp only [Bool.false_eq_true, if_false]
      decide +kernel
  cases hwt : isWord (bytes xs ++ form (shown r)) with
  | true =>
    have := word_end _ _ hs hwt
    rw [this] at hlr
    simp only [Bool.true_or] at hlr
    rw [← hlr]; simp
  | false =>
    rw [← hlr]; simp
end Go.Proofs.YtoffjpgobhcipaaDoor.Cls

/-
  Contract of runes.All: the characters of a text as a slice of the call's own.
-/
namespace Go.Proofs.YtoffjpgobhcipaaDoor.Cls
open Go.ChangeShapes Go.WideShapes Go.ChangeAt Go.RowKit
open Go.Lib (decodeL)

theorem info21 : (Tryd.prog.info? 21).map (fun i => (i.zero, i.size, i.bytes)) = some (some (.int .i32 0), 1, 4) := by kernel_rfl
theorem grown_of_below {w w' : World} (h : Below w.heap.size w w') : w.grownBy w' none := ⟨h.os, h.tape, h.output, h.size, fun k hk _ => h.block k hk⟩
theorem owns_below {w w' : World} {base : Nat} {e : TypeId} {size : Nat} {v : Value} {n : Nat} {xs : List Value} (h : w.ownsRow base e size v n xs) (hB : Below w.heap.size w w') : w'.ownsRow base e size v n xs :=
  h.kept (grown_of_below hB) (by cases v.ownBlock <;> simp)

/-- one character of a text of characters -/
theorem bytes_at (xs : List Int) (k : Nat) (x : Int) (hk : xs[k]? = some x) : (bytes xs).drop (bytes (xs.take k)).length = form x ++ bytes (xs.drop (k + 1)) := by
  obtain ⟨h1, h2⟩ := List.getElem?_eq_some_iff.mp hk
  have : xs = xs.take k ++ x :: xs.drop (k + 1) := by
    rw [← h2, ← List.drop_eq_getElem_cons h1, List.take_append_drop]
  have hb : bytes xs = bytes (xs.take k) ++ (form x ++ bytes (xs.drop (k + 1))) := by
    rw [← bytes_cons, ← bytes_append, ← this]
  rw [hb, List.drop_left]
theorem bytes_take (xs : List Int) (k : Nat) (x : Int) (hk : xs[k]? = some x) : (bytes (xs.take (k + 1))).length = (bytes (xs.take k)).length + (form x).length := by
  obtain ⟨h1, h2⟩ := List.getElem?_eq_some_iff.mp hk
  rw [List.take_succ_eq_append_getElem h1, h2, bytes_append, List.length_append, bytes_one]
theorem bytes_take_le (xs : List Int) (k : Nat) : (bytes (xs.take k)).length ≤ (bytes xs).length := by
  have : bytes xs = bytes (xs.take k) ++ bytes (xs.drop k) := by rw [← bytes_append, List.take_append_drop]
  rw [this]; simp
theorem count_le : ∀ (xs : List Int), allChar xs → xs.length ≤ (bytes xs).length
  | [], _ => by simp
  | x :: xs, h => by
    have h1 := form_len x (h x (by simp))
    have h2 := count_le xs (fun y hy => h y (by simp [hy]))
    rw [bytes_cons, List.length_append, List.length_cons]; omega

theorem one_new (w : World) (x : Value) (t : TypeId) : ∀ j u, [x][j]? = some u → (w.alloc (.cells #[x] t)).cell? ((⟨w.heap.size, 0, none⟩ : Addr).add j) = some u := by
  intro j u hj
  match j, hj with
  | 0, hj => simp at hj; subst hj; simp [Addr.add]
  | j + 1, hj => simp at hj

/-- what runes.All leaves -/
def AllLeaves (base : Nat) (xs : List Int) (e : Ending) (w' : World) : Prop :=
  ∃ v, e = .returned (.tuple #[v, .bool true]) ∧ w'.ownsRow base 21 1 v xs.length (xs.map (Value.int .i32))

/-- what a round does -/
theorem all_step {w wr w2 w3 : World} {s : ByteArray} {xs : List Int} {k : Nat} {x : Int} {v v' : Value} (hk : xs[k]? = some x) (np : Nat)
    (hit : wr.heap[w.heap.size]? = some (.stringIter s (bytes (xs.take k)).length)) (hb : Below w.heap.size w wr)
    (hnp : np = (bytes (xs.take k)).length + (form x).length)
    (hw2 : w2 = (wr.iterAt w.heap.size s np).alloc (.cells #[.int .i32 x] 21))
    (hown : wr.ownsRow (w.heap.size + 1) 21 1 v k ((xs.take k).map (Value.int .i32)))
    (hown' : w3.ownsRow (w.heap.size + 1) 21 1 v' (k + 1) ((xs.take k).map (Value.int .i32) ++ [.int .i32 x])) (hg : w2.grownBy w3 v.ownBlock) :
    w3.heap[w.heap.size]? = some (.stringIter s (bytes (xs.take (k + 1))).length) ∧ Below w.heap.size w w3 ∧ w3.ownsRow (w.heap.size + 1) 21 1 v' (k + 1) ((xs.take (k + 1)).map (Value.int .i32)) := by
  have hsz : w.heap.size < wr.heap.size := (Array.getElem?_eq_some_iff.1 hit).1
  have h1 := Lib.iterAt_heap wr w.heap.size s _ np hit
  have h2 : w2.heap[w.heap.size]? = some (.stringIter s np) := by
    rw [hw2, Below.heap_alloc _ _ _ (by rw [Lib.iterAt_size]; exact hsz)]; exact h1
  have hne : some w.heap.size ≠ v.ownBlock := by
    intro e
    have := (hown.lt w.heap.size e.symm).1
    omega
  have hs2 : w.heap.size < w2.heap.size := (Array.getElem?_eq_some_iff.1 h2).1
  refine ⟨?_, ?_, ?_⟩
  · rw [hg.block _ hs2 hne, h2, hnp, bytes_take xs k x hk]
  · have hb2 : Below w.heap.size w w2 := by
      rw [hw2]
      exact (Lib.below_iterAt hb (Nat.le_refl _) s np).alloc (by rw [Lib.iterAt_size]; omega) _
    exact hb2.grown hg (by omega) (fun q hq => by have := (hown.lt q hq).1; omega)
  · obtain ⟨h3, h4⟩ := List.getElem?_eq_some_iff.mp hk
    rw [List.take_succ_eq_append_getElem h3, h4, List.map_append]
    exact hown'

theorem any_step {w wr w2 w3 : World} {s : ByteArray} {pos np : Nat} {x : Int} {v : Value} {n : Nat} {vs : List Value}
    (hit : wr.heap[w.heap.size]? = some (.stringIter s pos)) (hb : Below w.heap.size w wr)
    (hw2 : w2 = (wr.iterAt w.heap.size s np).alloc (.cells #[.int .i32 x] 21))
    (hown : wr.ownsRow (w.heap.size + 1) 21 1 v n vs) (hg : w2.grownBy w3 v.ownBlock) :
    w3.heap[w.heap.size]? = some (.stringIter s np) ∧ Below w.heap.size w w3 := by
  have hsz : w.heap.size < wr.heap.size := (Array.getElem?_eq_some_iff.1 hit).1
  have h1 := Lib.iterAt_heap wr w.heap.size s _ np hit
  have h2 : w2.heap[w.heap.size]? = some (.stringIter s np) := by
    rw [hw2, Below.heap_alloc _ _ _ (by rw [Lib.iterAt_size]; exact hsz)]; exact h1
  have hne : some w.heap.size ≠ v.ownBlock := by
    intro e
    have := (hown.lt w.heap.size e.symm).1
    omega
  have hs2 : w.heap.size < w2.heap.size := (Array.getElem?_eq_some_iff.1 h2).1
  refine ⟨by rw [hg.block _ hs2 hne, h2], ?_⟩
  have hb2 : Below w.heap.size w w2 := by
    rw [hw2]
    exact (Lib.below_iterAt hb (Nat.le_refl _) s np).alloc (by rw [Lib.iterAt_size]; omega) _
  exact hb2.grown hg (by omega) (fun q hq => by have := (hown.lt q hq).1; omega)

end Go.Proofs.YtoffjpgobhcipaaDoor.Cls

/-
  Contracts of the document's Bad and All for layer 1.
-/
namespace Go.Proofs.YtoffjpgobhcipaaDoor.Cls
open Go.ChangeShapes Go.WideShapes Go.ChangeAt Go.RowKit
open Go.Lib (decodeL)

theorem info2 : (Tryd.prog.info? 2).map (fun i => (i.zero, i.size, i.bytes)) = some (some (.int .i64 0), 1, 8) := by kernel_rfl
/-- what the document's All leaves -/
def RAllLeaves (base : Nat) (xs : List Int) (e : Ending) (w' : World) : Prop :=
  ∃ v, e = .returned (.tuple #[v, .bool true]) ∧ w'.ownsRow base 2 1 v xs.length (xs.map (Value.int .i64))
end Go.Proofs.YtoffjpgobhcipaaDoor.Cls

/-
  The comparison of characters with the document's, and the statement RunesBad walked.
-/
namespace Go.Proofs.YtoffjpgobhcipaaDoor.Cls
open Go.ChangeShapes Go.WideShapes Go.ChangeAt Go.RowKit
open Go.Lib (decodeL)

theorem below_chain {a b c : World} (h : Below a.heap.size a b) (k : Below b.heap.size b c) : Below a.heap.size a c := h.trans (k.mono h.size)
theorem cell_lt {w : World} {a : Addr} {v : Value} (h : w.cell? a = some v) : a.block < w.heap.size := by
  unfold World.cell? at h
  cases hb : w.heap[a.block]? with
  | none => rw [hb] at h; cases h
  | some o => exact (Array.getElem?_eq_some_iff.1 hb).1
/-- a slice that reads as numbers -/
def Reads (K : IntKind) (w : World) (v : Value) (xs : List Int) : Prop :=
  ∃ a cap, v = .slice a xs.length cap ∧ ∀ k x, xs[k]? = some x → ∃ g, a = some ⟨g, 0, none⟩ ∧ w.cell? ⟨g, k, none⟩ = some (.int K x)
theorem reads_of {K : IntKind} {w : World} {base : Nat} {e : TypeId} {v : Value} {xs : List Int} (h : w.ownsRow base e 1 v xs.length (xs.map (Value.int K))) : Reads K w v xs := by
  rcases h.2 with ⟨rfl, h0⟩ | ⟨g, cap, cur, rfl, _⟩
  · have : xs = [] := List.length_eq_zero_iff.1 h0
    subst this
    exact ⟨none, 0, rfl, fun k x hk => by simp at hk⟩
  · refine ⟨_, cap, rfl, fun k x hk => ⟨g, rfl, ?_⟩⟩
    have := h.cells (g := g) rfl k (.int K x) (by simp [hk])
    have ha : (⟨g, 0, none⟩ : Addr).add k = ⟨g, k, none⟩ := by unfold Addr.add; split <;> simp_all
    rwa [ha] at this
theorem reads_below {K : IntKind} {w w' : World} {v : Value} {xs : List Int} (h : Reads K w v xs) (hB : Below w.heap.size w w') : Reads K w' v xs := by
  obtain ⟨a, cap, rfl, hc⟩ := h
  refine ⟨a, cap, rfl, fun k x hk => ?_⟩
  obtain ⟨g, hg, hcell⟩ := hc k x hk
  exact ⟨g, hg, (hB.cell (p := ⟨g, k, none⟩) (cell_lt hcell)).trans hcell⟩

/-- EVERY TEXT IS ONE OF CHARACTERS, OR HAS A FIRST BAD PLACE. -/
theorem text_cases (s : ByteArray) : (∃ xs, allChar xs ∧ s.data.toList = bytes xs ∧ badAt s.data.toList s.size 0 = -1) ∨ 0 ≤ badAt s.data.toList s.size 0 := by
  rcases badAt_cases s.data.toList s.size 0 with h | h
  · obtain ⟨xs, hx, he⟩ := none_bad s.size s.data.toList 0 (by simp) h
    exact .inl ⟨xs, hx, by simpa using he, h⟩
  · exact .inr h
end Go.Proofs.YtoffjpgobhcipaaDoor.Cls

/-
  The document's Name, and the statement ClassNames walked.
-/
namespace Go.Proofs.YtoffjpgobhcipaaDoor.Cls
open Go.ChangeShapes Go.WideShapes Go.ChangeAt Go.RowKit

theorem reads_first {K : IntKind} {w : World} {v : Value} {x : Int} {xs : List Int} (h : Reads K w v (x :: xs)) : ∃ g cap, v = .slice (some ⟨g, 0, none⟩) (xs.length + 1) cap ∧ ∀ k y, (x :: xs)[k]? = some y → w.cell? ⟨g, k, none⟩ = some (.int K y) := by
  obtain ⟨a, cap, rfl, hc⟩ := h
  obtain ⟨g, rfl, _⟩ := hc 0 x (by simp)
  refine ⟨g, cap, rfl, fun k y hk => ?_⟩
  obtain ⟨g', hg, hcell⟩ := hc k y hk
  simp only [Option.some.injEq, Addr.mk.injEq, and_true] at hg
  subst hg
  exact hcell
/-- a letter or a digit -/
def okc (r : Int) : Bool := inside letters r || inside digits r
theorem all_at (l : List Int) (k : Nat) (y : Int) (h : l[k]? = some y) : (l.drop k).all okc = (okc y && (l.drop (k + 1)).all okc) := by
  obtain ⟨hk, he⟩ := List.getElem?_eq_some_iff.mp h
  rw [List.drop_eq_getElem_cons hk, he, List.all_cons]
theorem names_true : ∀ xs : List Int, namesOk true xs = xs.all okc
  | [] => rfl
  | x :: xs => by rw [namesOk, names_true xs, List.all_cons]; simp [okc]
end Go.Proofs.YtoffjpgobhcipaaDoor.Cls
