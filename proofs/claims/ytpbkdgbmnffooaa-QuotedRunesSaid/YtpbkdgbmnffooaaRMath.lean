/-
  Plain lists and numbers under the statements of layers 1 and 2: the character at the head of a list of bytes, its form, and how the document's own way of reading (each length is tried) agrees with decoding.
-/
import Derived.Lib.MapLaws
namespace Go.Proofs.Ytpbkdgbmnffooaa
open Go.Lib

def isChar (r : Int) : Bool := decide (0 ≤ r ∧ r ≤ 1114111 ∧ (r < 55296 ∨ 57343 < r))
/-- a number's form -/
def form (r : Int) : List UInt8 := if isChar r = true then encodeRune r else []
/-- no character begins l (which is not empty) -/
def isBad (l : List UInt8) : Bool := (decodeL l).1 == 65533 && (decodeL l).2 == 1
/-- how many bytes the character at the head of l takes; 0: none -/
def wide (l : List UInt8) : Nat := if l = [] ∨ isBad l = true then 0 else (decodeL l).2
/-- the character at the head of l; 0: none -/
def chr (l : List UInt8) : Int := if l = [] ∨ isBad l = true then 0 else ((decodeL l).1 : Int)

theorem mem4 (l : List UInt8) : (l.getD 0 0).toNat < 256 ∧ (l.getD 1 0).toNat < 256 ∧ (l.getD 2 0).toNat < 256 ∧ (l.getD 3 0).toNat < 256 :=
  ⟨UInt8.toNat_lt _, UInt8.toNat_lt _, UInt8.toNat_lt _, UInt8.toNat_lt _⟩

theorem toByte_nat (x : UInt8) (n : Nat) (h : x.toNat = n) : x = UInt8.ofNat n := by subst h; simp

/-- WHAT IS NOT BAD HOLDS A CHARACTER. -/
theorem good_char (l : List UInt8) (hne : l ≠ []) (hb : isBad l = false) : isChar ((decodeL l).1 : Int) = true := by
  have hl : 0 < l.length := List.length_pos_iff.2 hne
  obtain ⟨k0, k1, k2, k3⟩ := mem4 l
  have hv : ¬ ((decodeL l).1 = 65533 ∧ (decodeL l).2 = 1) := by
    intro h; simp [isBad, h.1, h.2] at hb
  rw [decodeL_N] at hv ⊢
  unfold isChar
  rw [decide_eq_true_eq]
  rcases decodeN_shape l.length (l.getD 0 0).toNat (l.getD 1 0).toNat (l.getD 2 0).toNat (l.getD 3 0).toNat with ⟨c, e⟩ | ⟨c1, c2, c3, cv, e⟩ | ⟨c1, c2, c3, c4, cv, cs, e⟩ | ⟨c1, c2, c3, c4, c5, cv, cw, e⟩ | e
  all_goals (rw [e] at hv ⊢; dsimp only at hv ⊢)
  all_goals first | omega | exact absurd ⟨rfl, rfl⟩ hv

theorem good_form (l : List UInt8) (hne : l ≠ []) (hb : isBad l = false) : form ((decodeL l).1 : Int) = l.take (decodeL l).2 := by
  unfold form
  rw [if_pos (good_char l hne hb)]
  exact encode_decode l hne (by intro h; simp [isBad, h.1, h.2] at hb)

theorem good_width (l : List UInt8) (hne : l ≠ []) : 1 ≤ (decodeL l).2 ∧ (decodeL l).2 ≤ 4 ∧ (decodeL l).2 ≤ l.length := by
  have hl : 0 < l.length := List.length_pos_iff.2 hne
  rw [decodeL_N]
  rcases decodeN_shape l.length (l.getD 0 0).toNat (l.getD 1 0).toNat (l.getD 2 0).toNat (l.getD 3 0).toNat with ⟨c, e⟩ | ⟨c1, c2, c3, cv, e⟩ | ⟨c1, c2, c3, c4, cv, cs, e⟩ | ⟨c1, c2, c3, c4, c5, cv, cw, e⟩ | e
  all_goals (rw [e]; dsimp only; omega)

theorem good_len (l : List UInt8) (hne : l ≠ []) (hb : isBad l = false) : (form ((decodeL l).1 : Int)).length = (decodeL l).2 := by
  rw [good_form l hne hb, List.length_take]
  have := good_width l hne
  omega

/-- THE PROGRAM's WAY: what decodes as U+FFFD is bad, unless its form stands there. -/
theorem bad_iff (l : List UInt8) (hne : l ≠ []) : isBad l = ((decodeL l).1 == 65533 && !([239, 191, 189].isPrefixOf l)) := by
  have hl : 0 < l.length := List.length_pos_iff.2 hne
  obtain ⟨k0, k1, k2, k3⟩ := mem4 l
  have hp : [239, 191, 189].isPrefixOf l = decide (2 < l.length ∧ (l.getD 0 0).toNat = 239 ∧ (l.getD 1 0).toNat = 191 ∧ (l.getD 2 0).toNat = 189) := by
    rcases l with _ | ⟨a, _ | ⟨b, _ | ⟨c, t⟩⟩⟩ <;> simp [List.isPrefixOf]
    rw [Bool.eq_iff_iff]
    simp only [Bool.and_eq_true, beq_iff_eq, decide_eq_true_eq]
    simp only [← UInt8.toNat_inj]
    simp
    omega
  rw [hp]
  unfold isBad
  rw [decodeL_N]
  rcases decodeN_shape l.length (l.getD 0 0).toNat (l.getD 1 0).toNat (l.getD 2 0).toNat (l.getD 3 0).toNat with ⟨c, e⟩ | ⟨c1, c2, c3, cv, e⟩ | ⟨c1, c2, c3, c4, cv, cs, e⟩ | ⟨c1, c2, c3, c4, c5, cv, cw, e⟩ | e
  all_goals rw [e]
  all_goals dsimp only
  all_goals rw [Bool.eq_iff_iff]
  all_goals simp only [Bool.and_eq_true, beq_iff_eq, Bool.not_eq_true', decide_eq_false_iff_not]
  · omega
  · omega
  · omega
  · omega
  · simp only [and_self, true_and, true_iff]
    rintro ⟨q1, q2, q3, q4⟩
    rw [q2, q3, q4] at e
    simp [decodeN, q1] at e
    omega

theorem enc_getD (z : Int) (h : 0 ≤ z ∧ z < 256) : (z.toNat.toUInt8).toNat = z.toNat := by
  simp [Nat.toUInt8]
  omega

set_option maxHeartbeats 1000000 in
/-- A CHARACTER's FORM IS READ AS IT, WHATEVER STANDS BEHIND. -/
theorem decode_form (r : Int) (t : List UInt8) (h : isChar r = true) : decodeL (form r ++ t) = (r.toNat, (form r).length) := by
  have hf : form r = encodeRune r := by simp [form, h]
  rw [hf, decodeL_N]
  unfold isChar at h
  rw [decide_eq_true_eq] at h
  unfold encodeRune
  by_cases h1 : r ≤ 127
  · rw [encodeRuneZ_one (by omega) h1]
    simp [decodeN]
    have : r.toNat % 256 = r.toNat := by omega
    rw [this, if_pos (by omega)]
  · by_cases h2 : r ≤ 2047
    · rw [encodeRuneZ_two (by omega) h2]
      simp [decodeN]
      rw [if_neg (by omega), if_pos (by omega), if_pos (by omega)]
      simp only [Prod.mk.injEq, and_true]
      omega
    · by_cases h3 : r ≤ 65535
      · rw [encodeRuneZ_three (by omega)]
        simp [decodeN]
        rw [if_neg (by omega), if_neg (by omega), if_pos (by omega), if_pos (by omega)]
        simp only [Prod.mk.injEq, and_true]
        omega
      · rw [encodeRuneZ_four (by omega) (by omega)]
        simp [decodeN]
        rw [if_neg (by omega), if_neg (by omega), if_neg (by omega), if_pos (by omega), if_pos (by omega)]
        simp only [Prod.mk.injEq, and_true]
        omega

theorem form_len (r : Int) (h : isChar r = true) : 1 ≤ (form r).length ∧ (form r).length ≤ 4 := by
  have hf : form r = encodeRune r := by simp [form, h]
  rw [hf]
  unfold encodeRune
  rw [List.length_map]
  exact encodeRuneZ_length r

theorem form_good (r : Int) (t : List UInt8) (h : isChar r = true) : isBad (form r ++ t) = false := by
  have := decode_form r t h
  unfold isBad
  rw [this]
  dsimp only
  by_cases e : r = 65533
  · subst e; decide +kernel
  · unfold isChar at h
    rw [decide_eq_true_eq] at h
    have : ¬ r.toNat = 65533 := by omega
    simp [this]

/-! ### the document's own way: each length is tried -/
/-- the bytes behind the first one, six bits each -/
def acc (l : List UInt8) (c : Int) : Nat → Int
  | 0 => c
  | i + 1 => 64 * acc l c i + ((l.getD (i + 1) 0).toNat : Int) % 64
/-- what is tried at length n -/
def tried (l : List UInt8) (n : Nat) : Int :=
  acc l (if n ≤ 1 then ((l.getD 0 0).toNat : Int) else ((l.getD 0 0).toNat : Int) % 2 ^ (7 - n)) (n - 1)

set_option maxHeartbeats 1000000 in
theorem tried_good (l : List UInt8) (hne : l ≠ []) (hb : isBad l = false) : tried l (decodeL l).2 = ((decodeL l).1 : Int) := by
  have hl : 0 < l.length := List.length_pos_iff.2 hne
  obtain ⟨k0, k1, k2, k3⟩ := mem4 l
  have hv : ¬ ((decodeL l).1 = 65533 ∧ (decodeL l).2 = 1) := by
    intro h; simp [isBad, h.1, h.2] at hb
  clear hb
  rw [decodeL_N] at hv ⊢
  rcases decodeN_shape l.length (l.getD 0 0).toNat (l.getD 1 0).toNat (l.getD 2 0).toNat (l.getD 3 0).toNat with ⟨c, e⟩ | ⟨c1, c2, c3, cv, e⟩ | ⟨c1, c2, c3, c4, cv, cs, e⟩ | ⟨c1, c2, c3, c4, c5, cv, cw, e⟩ | e
  all_goals (rw [e] at hv ⊢; dsimp only at hv ⊢)
  · simp [tried, acc]
  · simp only [tried, acc, Nat.reduceLeDiff, if_false, Nat.reduceSub, Nat.reduceAdd]; omega
  · simp only [tried, acc, Nat.reduceLeDiff, if_false, Nat.reduceSub, Nat.reduceAdd]; omega
  · simp only [tried, acc, Nat.reduceLeDiff, if_false, Nat.reduceSub, Nat.reduceAdd]; omega
  · exact absurd ⟨rfl, rfl⟩ hv

/-- THE TEST AT LENGTH n IS MET AT THE CHARACTER's OWN LENGTH ALONE. -/
theorem tried_iff (l : List UInt8) (n : Nat) (h1 : 1 ≤ n) (h2 : n ≤ l.length) : form (tried l n) = l.take n ↔ wide l = n := by
  have hne : l ≠ [] := by intro e; subst e; simp at h2; omega
  constructor
  · intro h
    have hc : isChar (tried l n) = true := by
      cases hc : isChar (tried l n) with
      | true => rfl
      | false =>
        simp only [form, hc] at h
        have := congrArg List.length h
        simp [List.length_take] at this
        omega
    have hd := decode_form (tried l n) (l.drop n) hc
    have hg := form_good (tried l n) (l.drop n) hc
    rw [h, List.take_append_drop] at hd hg
    unfold wide
    rw [if_neg (by simp [hne, hg]), hd]
    simp [List.length_take]
    omega
  · intro h
    unfold wide at h
    split at h
    · omega
    · rename_i hx
      simp only [not_or, Bool.not_eq_true] at hx
      rw [← h, tried_good l hne hx.2, good_form l hne hx.2]

theorem wide_le (l : List UInt8) : wide l ≤ 4 ∧ wide l ≤ l.length := by
  unfold wide
  split
  · omega
  · rename_i h
    simp only [not_or] at h
    have := good_width l h.1
    omega

theorem wide_tried (l : List UInt8) (h : 1 ≤ wide l) : tried l (wide l) = chr l := by
  unfold wide at h ⊢
  unfold chr
  split at h
  · omega
  · rename_i hx
    rw [if_neg hx, if_neg hx]
    simp only [not_or, Bool.not_eq_true] at hx
    exact tried_good l hx.1 hx.2

theorem acc_bound (l : List UInt8) (c : Int) (h : 0 ≤ c ∧ c < 256) : ∀ i, i ≤ 3 → 0 ≤ acc l c i ∧ acc l c i < 67108864 := by
  intro i hi
  have a0 : acc l c 0 = c := rfl
  have a1 : acc l c 1 = 64 * acc l c 0 + ((l.getD 1 0).toNat : Int) % 64 := rfl
  have a2 : acc l c 2 = 64 * acc l c 1 + ((l.getD 2 0).toNat : Int) % 64 := rfl
  have a3 : acc l c 3 = 64 * acc l c 2 + ((l.getD 3 0).toNat : Int) % 64 := rfl
  match i, hi with
  | 0, _ => omega
  | 1, _ => omega
  | 2, _ => omega
  | 3, _ => omega
end Go.Proofs.Ytpbkdgbmnffooaa
