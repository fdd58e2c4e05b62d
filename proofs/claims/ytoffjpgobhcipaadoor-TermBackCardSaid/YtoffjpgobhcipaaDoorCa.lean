/-
  Texts Math A B C D of an earlier seat, under this one's numbers.
-/
import Derived.Test.YtoffjpgobhcipaaDoorRows
import Derived.Lib.MapLaws
import Derived.WalkKit
import Derived.ProofKit
import Derived.OpenShut
import Derived.LoopTactic
import Derived.Lib.Hide
import Derived.Lib.OthersKept
import Derived.Laws.Runes
import Derived.Outline
import Derived.Deep.QuietTactic
import Derived.BigQuiet
import Derived.Lib.SmallJoins
import Derived.Laws.BytesString
import Derived.Deep.WholeRow
import Derived.Deep.RegionWith
set_option maxRecDepth 100000
/-
  Plain lists and numbers under the statements of layers 1 and 2: the character at the head of a list of bytes, its form, and how the document's own way of reading (each length is tried) agrees with decoding.
-/
namespace Go.Proofs.YtoffjpgobhcipaaDoor
open Go.Lib

def isChar (r : Int) : Bool := decide (0 ≤ r ∧ r ≤ 1114111 ∧ (r < 55296 ∨ 57343 < r))
/-- a number's form -/
def form (r : Int) : List UInt8 := if isChar r = true then encodeRune r else []
/-- no character begins l (which is not empty) -/
def isBad (l : List UInt8) : Bool := (decodeL l).1 == 65533 && (decodeL l).2 == 1
/-- how many bytes the character at the head of l takes; 0: none -/
def wide (l : List UInt8) : Nat := if l = [] ∨ isBad l = true then 0 else (decodeL l).2
/-- the character at the head of l; 0: none -/
def chr (l : List UInt8) : Int := if l = [] ∨ isBad l = true then 0 else ((decodeL l).1 : Int)

theorem mem4 (l : List UInt8) : (l.getD 0 0).toNat < 256 ∧ (l.getD 1 0).toNat < 256 ∧ (l.getD 2 0).toNat < 256 ∧ (l.getD 3 0).toNat < 256 :=
  ⟨UInt8.toNat_lt _, UInt8.toNat_lt _, UInt8.toNat_lt _, UInt8.toNat_lt _⟩

theorem toByte_nat (x : UInt8) (n : Nat) (h : x.toNat = n) : x = UInt8.ofNat n := by subst h; simp

/-- WHAT IS NOT BAD HOLDS A CHARACTER. -/
theorem good_char (l : List UInt8) (hne : l ≠ []) (hb : isBad l = false) : isChar ((decodeL l).1 : Int) = true := by
  have hl : 0 < l.length := List.length_pos_iff.2 hne
  obtain ⟨k0, k1, k2, k3⟩ := mem4 l
  have hv : ¬ ((decodeL l).1 = 65533 ∧ (decodeL l).2 = 1) := by
    intro h; simp [isBad, h.1, h.2] at hb
  rw [decodeL_N] at hv ⊢
  unfold isChar
  rw [decide_eq_true_eq]
  rcases decodeN_shape l.length (l.getD 0 0).toNat (l.getD 1 0).toNat (l.getD 2 0).toNat (l.getD 3 0).toNat with ⟨c, e⟩ | ⟨c1, c2, c3, cv, e⟩ | ⟨c1, c2, c3, c4, cv, cs, e⟩ | ⟨c1, c2, c3, c4, c5, cv, cw, e⟩ | e
  all_goals (rw [e] at hv ⊢; dsimp only at hv ⊢)
  all_goals first | omega | exact absurd ⟨rfl, rfl⟩ hv

theorem good_form (l : List UInt8) (hne : l ≠ []) (hb : isBad l = false) : form ((decodeL l).1 : Int) = l.take (decodeL l).2 := by
  unfold form
  rw [if_pos (good_char l hne hb)]
  exact encode_decode l hne (by intro h; simp [isBad, h.1, h.2] at hb)

theorem good_width (l : List UInt8) (hne : l ≠ []) : 1 ≤ (decodeL l).2 ∧ (decodeL l).2 ≤ 4 ∧ (decodeL l).2 ≤ l.length := by
  have hl : 0 < l.length := List.length_pos_iff.2 hne
  rw [decodeL_N]
  rcases decodeN_shape l.length (l.getD 0 0).toNat (l.getD 1 0).toNat (l.getD 2 0).toNat (l.getD 3 0).toNat with ⟨c, e⟩ | ⟨c1, c2, c3, cv, e⟩ | ⟨c1, c2, c3, c4, cv, cs, e⟩ | ⟨c1, c2, c3, c4, c5, cv, cw, e⟩ | e
  all_goals (rw [e]; dsimp only; omega)

theorem good_len (l : List UInt8) (hne : l ≠ []) (hb : isBad l = false) : (form ((decodeL l).1 : Int)).length = (decodeL l).2 := by
  rw [good_form l hne hb, List.length_take]
  have := good_width l hne
  omega

/-- THE PROGRAM's WAY: what decodes as U+FFFD is bad, unless its form stands there. -/
theorem bad_iff (l : List UInt8) (hne : l ≠ []) : isBad l = ((decodeL l).1 == 65533 && !([239, 191, 189].isPrefixOf l)) := by
  have hl : 0 < l.length := List.length_pos_iff.2 hne
  obtain ⟨k0, k1, k2, k3⟩ := mem4 l
  have hp : [239, 191, 189].isPrefixOf l = decide (2 < l.length ∧ (l.getD 0 0).toNat = 239 ∧ (l.getD 1 0).toNat = 191 ∧ (l.getD 2 0).toNat = 189) := by
    rcases l with _ | ⟨a, _ | ⟨b, _ | ⟨c, t⟩⟩⟩ <;> simp [List.isPrefixOf]
    rw [Bool.eq_iff_iff]
    simp only [Bool.and_eq_true, beq_iff_eq, decide_eq_true_eq]
    simp only [← UInt8.toNat_inj]
    simp
    omega
  rw [hp]
  unfold isBad
  rw [decodeL_N]
  rcases decodeN_shape l.length (l.getD 0 0).toNat (l.getD 1 0).toNat (l.getD 2 0).toNat (l.getD 3 0).toNat with ⟨c, e⟩ | ⟨c1, c2, c3, cv, e⟩ | ⟨c1, c2, c3, c4, cv, cs, e⟩ | ⟨c1, c2, c3, c4, c5, cv, cw, e⟩ | e
  all_goals rw [e]
  all_goals dsimp only
  all_goals rw [Bool.eq_iff_iff]
  all_goals simp only [Bool.and_eq_true, beq_iff_eq, Bool.not_eq_true', decide_eq_false_iff_not]
  · omega
  · omega
  · omega
  · omega
  · simp only [and_self, true_and, true_iff]
    rintro ⟨q1, q2, q3, q4⟩
    rw [q2, q3, q4] at e
    simp [decodeN, q1] at e
    omega

theorem enc_getD (z : Int) (h : 0 ≤ z ∧ z < 256) : (z.toNat.toUInt8).toNat = z.toNat := by
  simp [Nat.toUInt8]
  omega

set_option maxHeartbeats 1000000 in
/-- A CHARACTER's FORM IS READ AS IT, WHATEVER STANDS BEHIND. -/
theorem decode_form (r : Int) (t : List UInt8) (h : isChar r = true) : decodeL (form r ++ t) = (r.toNat, (form r).length) := by
  have hf : form r = encodeRune r := by simp [form, h]
  rw [hf, decodeL_N]
  unfold isChar at h
  rw [decide_eq_true_eq] at h
  unfold encodeRune
  by_cases h1 : r ≤ 127
  · rw [encodeRuneZ_one (by omega) h1]
    simp [decodeN]
    have : r.toNat % 256 = r.toNat := by omega
    rw [this, if_pos (by omega)]
  · by_cases h2 : r ≤ 2047
    · rw [encodeRuneZ_two (by omega) h2]
      simp [decodeN]
      rw [if_neg (by omega), if_pos (by omega), if_pos (by omega)]
      simp only [Prod.mk.injEq, and_true]
      omega
    · by_cases h3 : r ≤ 65535
      · rw [encodeRuneZ_three (by omega)]
        simp [decodeN]
        rw [if_neg (by omega), if_neg (by omega), if_pos (by omega), if_pos (by omega)]
        simp only [Prod.mk.injEq, and_true]
        omega
      · rw [encodeRuneZ_four (by omega) (by omega)]
        simp [decodeN]
        rw [if_neg (by omega), if_neg (by omega), if_neg (by omega), if_pos (by omega), if_pos (by omega)]
        simp only [Prod.mk.injEq, and_true]
        omega

theorem form_len (r : Int) (h : isChar r = true) : 1 ≤ (form r).length ∧ (form r).length ≤ 4 := by
  have hf : form r = encodeRune r := by simp [form, h]
  rw [hf]
  unfold encodeRune
  rw [List.length_map]
  exact encodeRuneZ_length r

theorem form_good (r : Int) (t : List UInt8) (h : isChar r = true) : isBad (form r ++ t) = false := by
  have := decode_form r t h
  unfold isBad
  rw [this]
  dsimp only
  by_cases e : r = 65533
  · subst e; decide +kernel
  · unfold isChar at h
    rw [decide_eq_true_eq] at h
    have : ¬ r.toNat = 65533 := by omega
    simp [this]

/-! ### the document's own way: each length is tried -/
/-- the bytes behind the first one, six bits each -/
def acc (l : List UInt8) (c : Int) : Nat → Int
  | 0 => c
  | i + 1 => 64 * acc l c i + ((l.getD (i + 1) 0).toNat : Int) % 64
/-- what is tried at length n -/
def tried (l : List UInt8) (n : Nat) : Int :=
  acc l (if n ≤ 1 then ((l.getD 0 0).toNat : Int) else ((l.getD 0 0).toNat : Int) % 2 ^ (7 - n)) (n - 1)

set_option maxHeartbeats 1000000 in
theorem tried_good (l : List UInt8) (hne : l ≠ []) (hb : isBad l = false) : tried l (decodeL l).2 = ((decodeL l).1 : Int) := by
  have hl : 0 < l.length := List.length_pos_iff.2 hne
  obtain ⟨k0, k1, k2, k3⟩ := mem4 l
  have hv : ¬ ((decodeL l).1 = 65533 ∧ (decodeL l).2 = 1) := by
    intro h; simp [isBad, h.1, h.2] at hb
  clear hb
  rw [decodeL_N] at hv ⊢
  rcases decodeN_shape l.length (l.getD 0 0).toNat (l.getD 1 0).toNat (l.getD 2 0).toNat (l.getD 3 0).toNat with ⟨c, e⟩ | ⟨c1, c2, c3, cv, e⟩ | ⟨c1, c2, c3, c4, cv, cs, e⟩ | ⟨c1, c2, c3, c4, c5, cv, cw, e⟩ | e
  all_goals (rw [e] at hv ⊢; dsimp only at hv ⊢)
  · simp [tried, acc]
  · simp only [tried, acc, Nat.reduceLeDiff, if_false, Nat.reduceSub, Nat.reduceAdd]; omega
  · simp only [tried, acc, Nat.reduceLeDiff, if_false, Nat.reduceSub, Nat.reduceAdd]; omega
  · simp only [tried, acc, Nat.reduceLeDiff, if_false, Nat.reduceSub, Nat.reduceAdd]; omega
  · exact absurd ⟨rfl, rfl⟩ hv

/-- THE TEST AT LENGTH n IS MET AT THE CHARACTER's OWN LENGTH ALONE. -/
theorem tried_iff (l : List UInt8) (n : Nat) (h1 : 1 ≤ n) (h2 : n ≤ l.length) : form (tried l n) = l.take n ↔ wide l = n := by
  have hne : l ≠ [] := by intro e; subst e; simp at h2; omega
  constructor
  · intro h
    have hc : isChar (tried l n) = true := by
      cases hc : isChar (tried l n) with
      | true => rfl
      | false =>
        simp only [form, hc] at h
        have := congrArg List.length h
        simp [List.length_take] at this
        omega
    have hd := decode_form (tried l n) (l.drop n) hc
    have hg := form_good (tried l n) (l.drop n) hc
    rw [h, List.take_append_drop] at hd hg
    unfold wide
    rw [if_neg (by simp [hne, hg]), hd]
    simp [List.length_take]
    omega
  · intro h
    unfold wide at h
    split at h
    · omega
    · rename_i hx
      simp only [not_or, Bool.not_eq_true] at hx
      rw [← h, tried_good l hne hx.2, good_form l hne hx.2]

theorem wide_le (l : List UInt8) : wide l ≤ 4 ∧ wide l ≤ l.length := by
  unfold wide
  split
  · omega
  · rename_i h
    simp only [not_or] at h
    have := good_width l h.1
    omega

theorem wide_tried (l : List UInt8) (h : 1 ≤ wide l) : tried l (wide l) = chr l := by
  unfold wide at h ⊢
  unfold chr
  split at h
  · omega
  · rename_i hx
    rw [if_neg hx, if_neg hx]
    simp only [not_or, Bool.not_eq_true] at hx
    exact tried_good l hx.1 hx.2

theorem acc_bound (l : List UInt8) (c : Int) (h : 0 ≤ c ∧ c < 256) : ∀ i, i ≤ 3 → 0 ≤ acc l c i ∧ acc l c i < 67108864 := by
  intro i hi
  have a0 : acc l c 0 = c := rfl
  have a1 : acc l c 1 = 64 * acc l c 0 + ((l.getD 1 0).toNat : Int) % 64 := rfl
  have a2 : acc l c 2 = 64 * acc l c 1 + ((l.getD 2 0).toNat : Int) % 64 := rfl
  have a3 : acc l c 3 = 64 * acc l c 2 + ((l.getD 3 0).toNat : Int) % 64 := rfl
  match i, hi with
  | 0, _ => omega
  | 1, _ => omega
  | 2, _ => omega
  | 3, _ => omega
end Go.Proofs.YtoffjpgobhcipaaDoor

/-
  Contracts of the program's functions of layer 1 and of the document's answers for it: what each call returns, and that it turns nothing that was there.
-/
namespace Go.Proofs.YtoffjpgobhcipaaDoor
open Go.ChangeShapes Go.WideShapes Go.ChangeAt Go.RowKit
open Go.Lib (decodeL)
theorem ret_bool {a b : Bool} (h : a = b) : Ending.returned (.bool a) = .returned (.bool b) := by rw [h]
theorem ret_int {k : IntKind} {a b : Int} (h : a = b) : Ending.returned (.int k a) = .returned (.int k b) := by rw [h]
theorem ret_str {a b : ByteArray} (h : a = b) : Ending.returned (.string a) = .returned (.string b) := by rw [h]
theorem ba_of_list {a : ByteArray} {l : List UInt8} (h : a.data.toList = l) : a = ⟨l.toArray⟩ := by
  subst h; rfl

theorem character_any (r : Int) (w : World) :
    Calls Tryd.prog 91 #[.int .i32 r] w fun e w' => e = .returned (.bool (isChar r)) ∧ w = w' := by
  go_enter Tryd.func91, Tryd.ntmps91
  go_wp2
  all_goals
    go_ret
    exact ⟨ret_bool (by unfold isChar; rw [Bool.eq_iff_iff]; simp; omega), rfl⟩
theorem nat_byte (z : Int) : UInt8.ofNat z.toNat = z.toNat.toUInt8 := rfl
theorem encode_valid (r : Int) (h : isChar r = true) : (Utf8.encode r).data.toList = form r := by
  have hf : form r = Lib.encodeRune r := by simp [form, h]
  have hv : Utf8.valid r = true := by
    unfold isChar at h
    simp [Utf8.valid] at h ⊢
    omega
  rw [hf]
  unfold isChar at h
  rw [decide_eq_true_eq] at h
  unfold Lib.encodeRune Utf8.encode
  simp only [hv, if_true]
  by_cases h1 : r ≤ 127
  · rw [Lib.encodeRuneZ_one (by omega) h1, if_pos (by omega)]
    simp [Nat.toUInt8]
  · by_cases h2 : r ≤ 2047
    · rw [Lib.encodeRuneZ_two (by omega) h2, if_neg (by omega), if_pos (by omega)]
      simp only [List.map_cons, List.map_nil, Nat.toUInt8]
      have e1 : (192 + r / 64).toNat = 192 + r.toNat / 64 := by omega
      have e2 : (128 + r % 64).toNat = 128 + r.toNat % 64 := by omega
      rw [e1, e2]
    · by_cases h3 : r ≤ 65535
      · rw [Lib.encodeRuneZ_three (by omega), if_neg (by omega), if_neg (by omega), if_pos (by omega)]
        simp only [List.map_cons, List.map_nil, Nat.toUInt8]
        have e1 : (224 + r / 4096).toNat = 224 + r.toNat / 4096 := by omega
        have e2 : (128 + r / 64 % 64).toNat = 128 + r.toNat / 64 % 64 := by omega
        have e3 : (128 + r % 64).toNat = 128 + r.toNat % 64 := by omega
        rw [e1, e2, e3]
      · rw [Lib.encodeRuneZ_four (by omega) (by omega), if_neg (by omega), if_neg (by omega), if_neg (by omega)]
        simp only [List.map_cons, List.map_nil, Nat.toUInt8]
        have e0 : (240 + r / 262144).toNat = 240 + r.toNat / 262144 := by omega
        have e1 : (128 + r / 4096 % 64).toNat = 128 + r.toNat / 4096 % 64 := by omega
        have e2 : (128 + r / 64 % 64).toNat = 128 + r.toNat / 64 % 64 := by omega
        have e3 : (128 + r % 64).toNat = 128 + r.toNat % 64 := by omega
        rw [e0, e1, e2, e3]

theorem form_any (r : Int) (w : World) :
    Calls Tryd.prog 80 #[.int .i32 r] w fun e w' => e = .returned (.string ⟨(form r).toArray⟩) ∧ w = w' := by
  cases hc : isChar r with
  | true =>
    have he := encode_valid r hc
    have hc' := Lib.hid hc
    have he' := Lib.hid he
    clear he hc
    go_enter Tryd.func80, Tryd.ntmps80
    go_wp2_with (go_at_call 91; refine (character_any _ _).mono ?_; rintro e w' ⟨rfl, rfl⟩; rw [hc'.out])
    go_ret
    exact ⟨ret_str (ba_of_list he'.out), rfl⟩
  | false =>
    have hc' := Lib.hid hc
    clear hc
    go_enter Tryd.func80, Tryd.ntmps80
    go_wp2_with (go_at_call 91; refine (character_any _ _).mono ?_; rintro e w' ⟨rfl, rfl⟩; rw [hc'.out])
    go_ret
    exact ⟨ret_str (by simp [form, hc'.out]), rfl⟩


theorem extract_list (s : ByteArray) (a b : Nat) : (s.extract a b).toList = (s.data.toList.take b).drop a := by
  rw [ByteArray.toList_eq]
  simp [ByteArray.data_extract, List.extract_eq_take_drop, List.drop_take]

theorem prefix_eq (s t : List UInt8) (h : t.length ≤ s.length) : (s.take t.length == t) = t.isPrefixOf s := by
  rw [Bool.eq_iff_iff, beq_iff_eq, List.isPrefixOf_iff_prefix]
  constructor
  · intro e; rw [← e]; exact List.take_prefix _ _
  · rintro ⟨u, rfl⟩; simp

theorem prefix_any (s t : ByteArray) (w : World) :
    Calls Tryd.prog 22 #[.string s, .string t] w fun e w' => e = .returned (.bool (t.data.toList.isPrefixOf s.data.toList)) ∧ w = w' := by
  go_enter Tryd.func22, Tryd.ntmps22
  go_wp2
  · have h : t.size ≤ s.size := by assumption
    go_ret
    refine ⟨ret_bool ?_, rfl⟩
    rw [extract_list, ByteArray.toList_eq, List.drop_zero]
    exact prefix_eq _ _ h
  · have h : ¬ t.size ≤ s.size := by assumption
    go_ret
    refine ⟨ret_bool ?_, rfl⟩
    symm
    rw [Bool.eq_false_iff]
    intro hp
    have := (List.isPrefixOf_iff_prefix.1 hp).length_le
    exact h this

theorem begins_any (s : ByteArray) (pos : Nat) (w : World) (h : pos < s.size) (hs : s.size ≤ maxLen) :
    Calls Tryd.prog 66 #[.string s, .int .i64 pos, .int .i32 (Utf8.decode s pos).1] w fun e w' => e = .returned (.bool (!isBad (s.data.toList.drop pos))) ∧ w = w' := by
  have hs' := hs
  unfold maxLen at hs
  have hb := bad_iff (s.data.toList.drop pos) (by intro e; have := congrArg List.length e; simp at this; omega)
  rw [Lib.decodeL_drop] at hb
  have HB := Lib.hid hb
  clear hb
  by_cases hc : ((Utf8.decode s pos).1 : Int) = 65533
  · have hc1 : (((Utf8.decode s pos).1 : Int) == 65533) = true := by simpa using hc
    have HC := Lib.hid hc
    clear hc
    go_enter Tryd.func66, Tryd.ntmps66
    go_wp2_with (go_at_call 22; refine (prefix_any _ _ _).mono ?_; rintro e w' ⟨rfl, rfl⟩)
    go_ret
    refine ⟨ret_bool ?_, rfl⟩
    rw [HB.out]
    have : (Utf8.decode s pos).1 = 65533 := by have := HC.out; omega
    rw [List.take_of_length_le (by simp)]
    simp [this]
  · have hc1 : (((Utf8.decode s pos).1 : Int) == 65533) = false := by simpa using hc
    go_enter Tryd.func66, Tryd.ntmps66
    go_wp2
    go_ret
    refine ⟨ret_bool ?_, rfl⟩
    rw [HB.out]
    have : ¬ (Utf8.decode s pos).1 = 65533 := by omega
    simp [this]
end Go.Proofs.YtoffjpgobhcipaaDoor

/-
  Contracts of runes.Read, runes.Bad, and of the document's Form, Read and Bad.
-/
namespace Go.Proofs.YtoffjpgobhcipaaDoor
open Go.ChangeShapes Go.WideShapes Go.ChangeAt Go.RowKit
open Go.Lib (decodeL)

theorem drop_ne (s : ByteArray) (pos : Nat) (h : pos < s.size) : s.data.toList.drop pos ≠ [] := by
  intro e; have := congrArg List.length e; simp at this; omega
theorem below_iter (w : World) (s : ByteArray) (pos : Nat) : Below w.heap.size w (w.iter s pos) := (Below.refl _ w).alloc (Nat.le_refl _) _

theorem extract_decode (s : ByteArray) (pos : Nat) : Utf8.decode (s.extract pos s.size) 0 = Utf8.decode s pos := by
  rw [← Lib.decodeL_drop, ← Lib.decodeL_drop, List.drop_zero]
  congr 1
  rw [← ByteArray.toList_eq, extract_list, List.take_of_length_le (by simp)]
theorem wide_good (l : List UInt8) (hne : l ≠ []) (hb : isBad l = false) : wide l = (decodeL l).2 := by
  simp [wide, hne, hb]

set_option maxHeartbeats 400000 in
theorem read_any (s : ByteArray) (at' : Int) (w : World) (hs : s.size ≤ maxLen) (l : List UInt8) (hl : l = if 0 ≤ at' then s.data.toList.drop at'.toNat else []) :
    Calls Tryd.prog 79 #[.string s, .int .i64 at'] w fun e w' => e = .returned (.tuple #[.int .i32 (chr l), .int .i64 (wide l)]) ∧ Below w.heap.size w w' := by
  have hs' := hs
  unfold maxLen at hs
  by_cases h0 : at' < 0
  · have hc : chr l = 0 := by subst hl; rw [if_neg (by omega)]; simp [chr]
    have hw : wide l = 0 := by subst hl; rw [if_neg (by omega)]; simp [wide]
    rw [hc, hw]
    clear hc hw hl
    go_enter Tryd.func79, Tryd.ntmps79
    go_wp2
    go_ret2
    exact ⟨rfl, Below.refl _ _⟩
  · obtain ⟨pos, rfl⟩ : ∃ pos : Nat, at' = (pos : Int) := ⟨at'.toNat, by omega⟩
    rw [if_pos (by omega)] at hl
    simp only [Int.toNat_natCast] at hl
    by_cases hp : pos < s.size
    · have hne := drop_ne s pos hp
      have hxs : 0 < (s.extract pos s.size).size := by simp; omega
      have hdx : Utf8.decode (s.extract pos s.size) 0 = Utf8.decode s pos := extract_decode s pos
      have hnx : ∀ ty, (Instr.next (.pointer (some ⟨w.heap.size, 0, none⟩)) true ty).run Tryd.prog (w.iter (s.extract pos s.size) 0) = .ok (.tuple #[.bool true, .int .i64 0, .int .i32 (Utf8.decode s pos).1]) (w.iter (s.extract pos s.size) (Utf8.decode s pos).2) := by
        intro ty
        rw [run_next_any w (s.extract pos s.size) 0 ty hxs, hdx]; simp
      clear hdx hxs
      cases hb : isBad (s.data.toList.drop pos) with
      | true =>
        have hc : chr l = 0 := by subst hl; simp [chr, hb]
        have hw : wide l = 0 := by subst hl; simp [wide, hb]
        rw [hc, hw]
        clear hc hw hl
        have HB := Lib.hid hb
        clear hb
        go_enter Tryd.func79, Tryd.ntmps79
        go_wp2
        go_loopw [] (fun wr => wr = w.iter (s.extract pos s.size) 0) (fun _ => 0)
        case atStart => exact rfl
        case round =>
          obtain rfl := hrel
          go_wp2_with (go_at_call 66; refine (begins_any s pos _ hp hs').mono ?_; rintro e w' ⟨rfl, rfl⟩; rw [HB.out])
          go_ret2
          exact ⟨rfl, below_iter _ _ _⟩
      | false =>
        have hc : chr l = ((Utf8.decode s pos).1 : Int) := by rw [← Lib.decodeL_drop]; subst hl; simp [chr, hb, hne]
        have hw : wide l = (form ((Utf8.decode s pos).1 : Int)).length := by rw [← Lib.decodeL_drop]; subst hl; rw [wide_good _ hne hb, good_len _ hne hb]
        rw [hc, hw]
        clear hc hw hl
        have HB := Lib.hid hb
        clear hb
        go_enter Tryd.func79, Tryd.ntmps79
        go_wp2
        go_loopw [] (fun wr => wr = w.iter (s.extract pos s.size) 0) (fun _ => 0)
        case atStart => exact rfl
        case round =>
          obtain rfl := hrel
          go_wp2_with (first
            | (go_at_call 66; refine (begins_any s pos _ hp hs').mono ?_; rintro e w' ⟨rfl, rfl⟩; rw [HB.out])
            | (go_at_call 80; refine (form_any _ _).mono ?_; rintro e w' ⟨rfl, rfl⟩))
          go_ret2
          exact ⟨rfl, below_iter _ _ _⟩
    · have hc : chr l = 0 := by subst hl; rw [List.drop_of_length_le (by simp; omega)]; simp [chr]
      have hw : wide l = 0 := by subst hl; rw [List.drop_of_length_le (by simp; omega)]; simp [wide]
      rw [hc, hw]
      clear hc hw hl
      go_enter Tryd.func79, Tryd.ntmps79
      go_wp2
      go_ret2
      exact ⟨rfl, Below.refl _ _⟩

theorem width_pos' (s : ByteArray) (pos : Nat) (h : pos < s.size) : 1 ≤ (Utf8.decode s pos).2 := by
  rw [← Lib.decodeL_drop]; exact (good_width _ (drop_ne s pos h)).1

/-- the first place from pos on at which no character begins; -1 -/
def badAt (l : List UInt8) : Nat → Nat → Int
  | 0, _ => -1
  | f + 1, pos => if pos < l.length then (if isBad (l.drop pos) = true then pos else badAt l f (pos + wide (l.drop pos))) else -1
theorem badAt_end (l : List UInt8) (f pos : Nat) (h : ¬ pos < l.length) : badAt l f pos = -1 := by
  cases f with
  | zero => rfl
  | succ f => simp [badAt, h]
set_option maxHeartbeats 400000 in
theorem bad_any (s : ByteArray) (w : World) (hs : s.size ≤ maxLen) :
    Calls Tryd.prog 49 #[.string s] w fun e w' => e = .returned (.int .i64 (badAt s.data.toList s.size 0)) ∧ Below w.heap.size w w' := by
  have hs' := hs
  unfold maxLen at hs
  go_enter Tryd.func49, Tryd.ntmps49
  go_wp2
  go_loopw [] (fun wr => ∃ (pos f : Nat), wr = w.iter s pos ∧ Hid (badAt s.data.toList f pos = badAt s.data.toList s.size 0) ∧ s.size ≤ pos + f) (fun wr => s.size - wr.iterPos w.heap.size)
  case atStart => exact ⟨0, s.size, rfl, Lib.hid rfl, by omega⟩
  case round =>
    obtain ⟨pos, f, rfl, HR, hf⟩ := hrel
    by_cases hp : pos < s.size
    · have hnx : ∀ ty, (Instr.next (.pointer (some ⟨w.heap.size, 0, none⟩)) true ty).run Tryd.prog (w.iter s pos) = _ := fun ty => run_next_any w s pos ty hp
      have hne := drop_ne s pos hp
      obtain ⟨g, rfl⟩ : ∃ g, f = g + 1 := ⟨f - 1, by omega⟩
      have hwd := width_pos' s pos hp
      cases hb : isBad (s.data.toList.drop pos) with
      | true =>
        have HB := Lib.hid hb
        clear hb
        go_wp2_with (go_at_call 66; refine (begins_any s pos _ hp hs').mono ?_; rintro e w' ⟨rfl, rfl⟩; rw [HB.out])
        go_ret
        refine ⟨ret_int ?_, below_iter _ _ _⟩
        rw [← HR.out]
        simp [badAt, hp, HB.out]
      | false =>
        have HB := Lib.hid hb
        clear hb
        go_wp2_with (go_at_call 66; refine (begins_any s pos _ hp hs').mono ?_; rintro e w' ⟨rfl, rfl⟩; rw [HB.out])
        go_roundw
        case rel =>
          refine ⟨pos + (Utf8.decode s pos).2, g, rfl, Lib.hid ?_, by omega⟩
          rw [← HR.out]
          have hw := wide_good _ hne HB.out
          rw [Lib.decodeL_drop] at hw
          simp [badAt, hp, HB.out, hw]
        case measure => simp; omega
    · have hnx : ∀ ty, (Instr.next (.pointer (some ⟨w.heap.size, 0, none⟩)) true ty).run Tryd.prog (w.iter s pos) = _ := fun ty => run_next_end w s pos ty hp
      go_wp2
      go_ret
      refine ⟨ret_int ?_, below_iter _ _ _⟩
      rw [← HR.out, badAt_end _ _ _ (by simpa using hp)]
end Go.Proofs.YtoffjpgobhcipaaDoor

/-
  Contracts of the document's Form, Read and Bad for layer 1.
-/
namespace Go.Proofs.YtoffjpgobhcipaaDoor
open Go.ChangeShapes Go.WideShapes Go.ChangeAt Go.RowKit
open Go.Lib (decodeL)

theorem foldl_bytes (ns : List Int) : ∀ s : ByteArray, (ns.foldl (fun r n => r.push (UInt8.ofNat n.toNat)) s).data.toList = s.data.toList ++ ns.map fun n => UInt8.ofNat n.toNat := by
  induction ns with
  | nil => intro s; simp
  | cons n t ih => intro s; rw [List.foldl_cons, ih]; simp
theorem conv_new (w : World) (ns : List Int) (c : Array Value) (k : Nat) (hc : c = (ns.map (Value.int .u8)).toArray) (hk : ns.length = k) :
    (convert 40 9 (.slice (some ⟨w.heap.size, 0, none⟩) k k)).run Tryd.prog (w.alloc (.cells c 5)) = .ok (.string ⟨(ns.map fun n => UInt8.ofNat n.toNat).toArray⟩) (w.alloc (.cells c 5)) := by
  subst hk
  rw [run_convert_bytes_string _ 40 9 5 _ _ _ Tryd.underlying40 Tryd.underlying5 Tryd.underlying9, run_bytesToString _ _ _ _ ns]
  · congr 2
    rw [ba_of_list (foldl_bytes ns _)]
    simp
  · unfold loadCells
    subst hc
    exact run_loadCellsFrom_new _ _ _ _ (by simp)

theorem form_bytes (r : Int) (h : isChar r = true) (ns : List Int) (hn : Lib.encodeRuneZ r = ns) : (ns.map fun n => UInt8.ofNat n.toNat) = form r := by
  have hf : form r = Lib.encodeRune r := by simp [form, h]
  rw [hf, ← hn]; rfl

end Go.Proofs.YtoffjpgobhcipaaDoor

/-
  Contracts of the document's Read and Bad for layer 1.
-/
namespace Go.Proofs.YtoffjpgobhcipaaDoor
open Go.ChangeShapes Go.WideShapes Go.ChangeAt Go.RowKit
open Go.Lib (decodeL)

theorem byte_at (s : ByteArray) (pos i : Nat) (h : pos + i < s.size) : wrap64 ((s[pos + i]'h).toNat : Int) = (((s.data.toList.drop pos).getD i 0).toNat : Int) := by
  have h1 := UInt8.toNat_lt (s[pos + i]'h)
  have h2 : wrap64 ((s[pos + i]'h).toNat : Int) = ((s[pos + i]'h).toNat : Int) := by unfold wrap64; omega
  rw [h2]
  have : (s.data.toList.drop pos).getD i 0 = s[pos + i]'h := by
    rw [List.getD_eq_getElem?_getD, List.getElem?_drop, List.getElem?_eq_getElem (by simpa using h)]
    rfl
  rw [this]

theorem slice_run (s : ByteArray) (pos n : Nat) (j : Int) (hj : j = (pos : Int) + n) (h : pos + n ≤ s.size) (w : World) :
    (Instr.slice 9 (.string s) (some (.int .i64 (pos : Int))) (some (.int .i64 j)) none).run Tryd.prog w = .ok (.string (s.extract pos (pos + n))) w := by
  subst hj
  rw [run_slice_string _ 9 s .i64 .i64 _ _ Tryd.underlying9 (by omega) (by omega) (by omega)]
  congr 2

theorem test_eq (s : ByteArray) (pos n : Nat) (c : Int) (l : List UInt8) (hl : l = s.data.toList.drop pos) (hc : c = tried l n) (h1 : 1 ≤ n) (h2 : pos + n ≤ s.size) :
    (form c == (s.extract pos (pos + n)).toList) = decide (wide l = n) := by
  have hx : (s.extract pos (pos + n)).toList = l.take n := by
    rw [extract_list, hl, List.drop_take]; congr 1; omega
  rw [hx, Bool.eq_iff_iff, beq_iff_eq, decide_eq_true_eq, hc]
  exact tried_iff l n h1 (by rw [hl]; simp; omega)
theorem ret2_int {k k' : IntKind} {a b c d : Int} (h : a = b) (h' : c = d) : Ending.returned (.tuple #[.int k a, .int k' c]) = .returned (.tuple #[.int k b, .int k' d]) := by rw [h, h']
/-- what is known of the lengths below n -/
def Past (l : List UInt8) (n : Nat) : Prop := n ≤ wide l ∨ wide l = 0
theorem past_next {l : List UInt8} {n : Nat} (h : Past l n) (h' : ¬ wide l = n) : Past l (n + 1) := by
  unfold Past at h ⊢; omega
theorem past_end {l : List UInt8} {n : Nat} (h : Past l n) (h' : n = 5 ∨ l.length < n) : wide l = 0 := by
  have := wide_le l
  unfold Past at h; omega
theorem chr_none {l : List UInt8} (h : wide l = 0) : chr l = 0 := by
  unfold wide at h
  unfold chr
  split at h
  · rw [if_pos (by assumption)]
  · rename_i hx
    simp only [not_or] at hx
    have := good_width l hx.1
    omega

end Go.Proofs.YtoffjpgobhcipaaDoor
