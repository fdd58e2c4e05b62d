/-
  Plain lists under the statements on whole texts: a text of characters is their forms, one behind the other.
-/
import Derived.Test.YtmlaefdfpekhcaaL
namespace Go.Proofs.Ytmlaefdfpekhcaa
open Go.Lib (decodeL)

/-- characters as bytes -/
def bytes (xs : List Int) : List UInt8 := xs.flatMap form
/-- all are characters -/
def allChar (xs : List Int) : Prop := ∀ x ∈ xs, isChar x = true
theorem bytes_cons (x : Int) (xs : List Int) : bytes (x :: xs) = form x ++ bytes xs := rfl
theorem bytes_append (xs ys : List Int) : bytes (xs ++ ys) = bytes xs ++ bytes ys := by simp [bytes]
theorem bytes_one (x : Int) : bytes [x] = form x := by simp [bytes]
theorem form_ne (x : Int) (h : isChar x = true) : form x ≠ [] := by
  intro e; have := form_len x h; rw [e] at this; simp at this
theorem wide_bytes (x : Int) (t : List UInt8) (h : isChar x = true) : wide (form x ++ t) = (form x).length := by
  have hne : form x ++ t ≠ [] := by simp [form_ne x h]
  rw [wide_good _ hne (form_good x t h), decode_form x t h]
theorem chr_bytes (x : Int) (t : List UInt8) (h : isChar x = true) : ((decodeL (form x ++ t)).1 : Int) = x := by
  rw [decode_form x t h]
  unfold isChar at h
  rw [decide_eq_true_eq] at h
  simp; omega

theorem bad_none : ∀ (xs : List Int) (pre : List UInt8) (f : Nat), allChar xs → badAt (pre ++ bytes xs) f pre.length = -1
  | [], pre, f, _ => by rw [badAt_end]; simp [bytes]
  | x :: xs, pre, 0, _ => rfl
  | x :: xs, pre, f + 1, h => by
    have hx := h x (by simp)
    have hd : (pre ++ bytes (x :: xs)).drop pre.length = form x ++ bytes xs := by simp [bytes_cons]
    unfold badAt
    split
    · rw [hd, form_good x _ hx, wide_bytes x _ hx]
      have := bad_none xs (pre ++ form x) f (fun y hy => h y (by simp [hy]))
      simp only [List.length_append] at this
      rw [bytes_cons, ← List.append_assoc]
      simpa using this
    · rfl

/-- WHERE NONE IS BAD THE TEXT IS ONE OF CHARACTERS. -/
theorem none_bad : ∀ (f : Nat) (l : List UInt8) (pos : Nat), l.length ≤ pos + f → badAt l f pos = -1 → ∃ xs, allChar xs ∧ l.drop pos = bytes xs
  | 0, l, pos, hf, _ => ⟨[], fun _ h => by simp at h, by rw [List.drop_of_length_le (by omega)]; rfl⟩
  | f + 1, l, pos, hf, h => by
    by_cases hp : pos < l.length
    · have hne : l.drop pos ≠ [] := by intro e; have := congrArg List.length e; simp at this; omega
      unfold badAt at h
      rw [if_pos hp] at h
      cases hb : isBad (l.drop pos) with
      | true => rw [hb] at h; simp at h
      | false =>
        rw [hb] at h
        simp only [Bool.false_eq_true, if_false] at h
        have hw := good_width _ hne
        rw [wide_good _ hne hb] at h
        obtain ⟨xs, hx, he⟩ := none_bad f l (pos + (decodeL (l.drop pos)).2) (by omega) h
        refine ⟨((decodeL (l.drop pos)).1 : Int) :: xs, ?_, ?_⟩
        · intro y hy
          rcases List.mem_cons.1 hy with rfl | hy
          · exact good_char _ hne hb
          · exact hx y hy
        · rw [bytes_cons, ← he, good_form _ hne hb, ← List.drop_drop, List.take_append_drop]
    · exact ⟨[], fun _ h => by simp at h, by rw [List.drop_of_length_le (by omega)]; rfl⟩

/-- letters, and digits that are not first -/
def namesOk : Bool → List Int → Bool
  | _, [] => true
  | b, x :: xs => (inside letters x || (b && inside digits x)) && namesOk true xs
theorem names_bytes : ∀ (xs : List Int) (pre : List UInt8) (f : Nat), allChar xs → (bytes xs).length ≤ f → namesAt (pre ++ bytes xs) f pre.length = namesOk (pre.length != 0) xs
  | [], pre, f, _, _ => by rw [namesAt_end]; · rfl
                           · simp [bytes]
  | x :: xs, pre, 0, h, hf => by
    have := form_len x (h x (by simp))
    rw [bytes_cons, List.length_append] at hf
    omega
  | x :: xs, pre, f + 1, h, hf => by
    have hx := h x (by simp)
    have hl := form_len x hx
    have hd : (pre ++ bytes (x :: xs)).drop pre.length = form x ++ bytes xs := by simp [bytes_cons]
    have hfx : (bytes xs).length ≤ f := by
      have h0 : (bytes (x :: xs)).length = (form x).length + (bytes xs).length := by rw [bytes_cons, List.length_append]
      omega
    have hlen : pre.length < (pre ++ bytes (x :: xs)).length := by rw [bytes_cons, List.length_append, List.length_append]; omega
    unfold namesAt
    rw [if_pos hlen, hd, chr_bytes x _ hx, decode_form x _ hx]
    have := names_bytes xs (pre ++ form x) f (fun y hy => h y (by simp [hy])) hfx
    simp only [List.length_append] at this
    dsimp only
    rw [bytes_cons, ← List.append_assoc, this]
    have h1 : (pre.length + (form x).length != 0) = true := by rw [bne_iff_ne]; omega
    rw [h1]
    rfl
theorem names_snoc : ∀ (xs : List Int) (b : Bool) (x : Int), namesOk b (xs ++ [x]) = (namesOk b xs && (inside letters x || ((b || !(xs == [])) && inside digits x)))
  | [], b, x => by simp [namesOk]
  | y :: xs, b, x => by
    rw [List.cons_append, namesOk, names_snoc xs true x, namesOk]
    simp [Bool.and_assoc]

theorem name_split (l : List UInt8) (h : isName l = true) : ∃ xs, allChar xs ∧ l = bytes xs ∧ xs ≠ [] ∧ isWord l = false ∧ namesOk false xs = true := by
  unfold isName at h
  simp only [Bool.and_eq_true, Bool.not_eq_true', decide_eq_true_eq] at h
  obtain ⟨⟨⟨h1, h2⟩, h3⟩, h4⟩ := h
  have h5 : badAt l l.length 0 = -1 := by
    rcases badAt_cases l l.length 0 with h | h
    · exact h
    · omega
  obtain ⟨xs, hx, he⟩ := none_bad l.length l 0 (by omega) h5
  rw [List.drop_zero] at he
  have hn := names_bytes xs [] l.length hx (by rw [he]; exact Nat.le_refl _)
  rw [List.nil_append, ← he] at hn
  simp only [List.length_nil] at hn
  rw [hn] at h4
  refine ⟨xs, hx, he, ?_, h2, h4⟩
  rintro rfl
  rw [he] at h1
  simp [bytes] at h1
theorem name_make (xs : List Int) (hx : allChar xs) (hne : xs ≠ []) : isName (bytes xs) = (!isWord (bytes xs) && namesOk false xs) := by
  unfold isName
  have hb := bad_none xs [] (bytes xs).length hx
  have hn := names_bytes xs [] (bytes xs).length hx (Nat.le_refl _)
  rw [List.nil_append, List.length_nil] at hb hn
  rw [hb, hn]
  have h1 : (bytes xs == []) = false := by
    cases xs with
    | nil => exact absurd rfl hne
    | cons y ys => have := form_ne y (hx y (by simp)); simp [bytes_cons, this]
  rw [h1]
  simp

/-- a word ends in a small letter -/
theorem word_end (l : List UInt8) (x : Int) (hx : isChar x = true) (h : isWord (l ++ form x) = true) : inside letters x = true := by
  have hw : words.all (fun w => match w.getLast? with | some b => decide (97 ≤ b.toNat) && decide (b.toNat ≤ 122) | none => false) = true := by decide +kernel
  have hm : (l ++ form x) ∈ words := by simpa [isWord] using h
  have := List.all_eq_true.1 hw _ hm
  have hf : form x = Lib.encodeRune x := by simp [form, hx]
  have hc := hx
  unfold isChar at hc
  rw [decide_eq_true_eq] at hc
  rw [hf] at this
  unfold Lib.encodeRune at this
  by_cases h1 : x ≤ 127
  · rw [Lib.encodeRuneZ_one (by omega) h1] at this
    simp at this
    have h2 : x.toNat % 256 = x.toNat := by omega
    rw [h2] at this
    simp [inside, letters]
    omega
  · exfalso
    by_cases h2 : x ≤ 2047
    · rw [Lib.encodeRuneZ_two (by omega) h2] at this
      simp at this
      omega
    · by_cases h3 : x ≤ 65535
      · rw [Lib.encodeRuneZ_three (by omega)] at this
        simp at this
        omega
      · rw [Lib.encodeRuneZ_four (by omega) (by omega)] at this
        simp at this
        omega

/-- what string(r) is: r, or U+FFFD -/
def shown (r : Int) : Int := if isChar r = true then r else 65533
theorem shown_char (r : Int) : isChar (shown r) = true := by
  unfold shown; split
  · assumption
  · rfl
theorem letters_char (r : Int) (h : isChar r = false) : inside letters r = false ∧ inside digits r = false := by
  unfold isChar at h
  rw [decide_eq_false_iff_not] at h
  constructor
  · simp [inside, letters]; omega
  · simp [inside, digits]; omega
theorem longer (l : List UInt8) (r : Int) (h : isName l = true) : (isName (l ++ form (shown r)) || isWord (l ++ form (shown r))) = (inside letters r || inside digits r) := by
  obtain ⟨xs, hx, rfl, hne, hw, hn⟩ := name_split l h
  have hs := shown_char r
  have hall : allChar (xs ++ [shown r]) := by
    intro y hy
    rcases List.mem_append.1 hy with hy | hy
    · exact hx y hy
    · simp at hy; subst hy; exact hs
  have hm := name_make (xs ++ [shown r]) hall (by simp)
  rw [bytes_append, bytes_one, names_snoc, hn] at hm
  have hxe : (xs == []) = false := by simpa using hne
  rw [hm, hxe]
  have hlr : (inside letters (shown r) || inside digits (shown r)) = (inside letters r || inside digits r) := by
    unfold shown
    cases hc : isChar r with
    | true => simp
    | false =>
      obtain ⟨a, b⟩ := letters_char r hc
      rw [a, b]
      simp only [Bool.false_eq_true, if_false]
      decide +kernel
  cases hwt : isWord (bytes xs ++ form (shown r)) with
  | true =>
    have := word_end _ _ hs hwt
    rw [this] at hlr
    simp only [Bool.true_or] at hlr
    rw [← hlr]; simp
  | false =>
    rw [← hlr]; simp
end Go.Proofs.Ytmlaefdfpekhcaa
