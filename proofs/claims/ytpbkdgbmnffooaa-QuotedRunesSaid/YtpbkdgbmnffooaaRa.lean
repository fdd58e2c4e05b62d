/-
  Contracts of the program's functions of layer 1 and of the document's answers for it: what each call returns, and that it turns nothing that was there.
-/
import Derived.Test.YtpbkdgbmnffooaaRows
import Derived.Test.YtpbkdgbmnffooaaRMath
import Derived.WalkKit
import Derived.ProofKit
import Derived.OpenShut
import Derived.LoopTactic
import Derived.Lib.Hide
import Derived.Lib.OthersKept
import Derived.Laws.Runes
import Derived.Outline
namespace Go.Proofs.Ytpbkdgbmnffooaa
open Go.ChangeShapes Go.WideShapes Go.ChangeAt Go.RowKit
open Go.Lib (decodeL)
theorem ret_bool {a b : Bool} (h : a = b) : Ending.returned (.bool a) = .returned (.bool b) := by rw [h]
theorem ret_int {k : IntKind} {a b : Int} (h : a = b) : Ending.returned (.int k a) = .returned (.int k b) := by rw [h]
theorem ret_str {a b : ByteArray} (h : a = b) : Ending.returned (.string a) = .returned (.string b) := by rw [h]
theorem ba_of_list {a : ByteArray} {l : List UInt8} (h : a.data.toList = l) : a = ⟨l.toArray⟩ := by
  subst h; rfl

theorem character_any (r : Int) (w : World) :
    Calls Try.prog 41 #[.int .i32 r] w fun e w' => e = .returned (.bool (isChar r)) ∧ w = w' := by
  go_enter Try.func41, Try.ntmps41
  go_wp2
  all_goals
    go_ret
    exact ⟨ret_bool (by unfold isChar; rw [Bool.eq_iff_iff]; simp; omega), rfl⟩
theorem may_any (r : Int) (w : World) :
    Calls Try.prog 25 #[.int .i64 r] w fun e w' => e = .returned (.bool (isChar r)) ∧ w = w' := by
  go_enter Try.func25, Try.ntmps25
  go_wp2
  all_goals
    go_ret
    exact ⟨ret_bool (by unfold isChar; rw [Bool.eq_iff_iff]; simp; omega), rfl⟩

theorem nat_byte (z : Int) : UInt8.ofNat z.toNat = z.toNat.toUInt8 := rfl
theorem encode_valid (r : Int) (h : isChar r = true) : (Utf8.encode r).data.toList = form r := by
  have hf : form r = Lib.encodeRune r := by simp [form, h]
  have hv : Utf8.valid r = true := by
    unfold isChar at h
    simp [Utf8.valid] at h ⊢
    omega
  rw [hf]
  unfold isChar at h
  rw [decide_eq_true_eq] at h
  unfold Lib.encodeRune Utf8.encode
  simp only [hv, if_true]
  by_cases h1 : r ≤ 127
  · rw [Lib.encodeRuneZ_one (by omega) h1, if_pos (by omega)]
    simp [Nat.toUInt8]
  · by_cases h2 : r ≤ 2047
    · rw [Lib.encodeRuneZ_two (by omega) h2, if_neg (by omega), if_pos (by omega)]
      simp only [List.map_cons, List.map_nil, Nat.toUInt8]
      have e1 : (192 + r / 64).toNat = 192 + r.toNat / 64 := by omega
      have e2 : (128 + r % 64).toNat = 128 + r.toNat % 64 := by omega
      rw [e1, e2]
    · by_cases h3 : r ≤ 65535
      · rw [Lib.encodeRuneZ_three (by omega), if_neg (by omega), if_neg (by omega), if_pos (by omega)]
        simp only [List.map_cons, List.map_nil, Nat.toUInt8]
        have e1 : (224 + r / 4096).toNat = 224 + r.toNat / 4096 := by omega
        have e2 : (128 + r / 64 % 64).toNat = 128 + r.toNat / 64 % 64 := by omega
        have e3 : (128 + r % 64).toNat = 128 + r.toNat % 64 := by omega
        rw [e1, e2, e3]
      · rw [Lib.encodeRuneZ_four (by omega) (by omega), if_neg (by omega), if_neg (by omega), if_neg (by omega)]
        simp only [List.map_cons, List.map_nil, Nat.toUInt8]
        have e0 : (240 + r / 262144).toNat = 240 + r.toNat / 262144 := by omega
        have e1 : (128 + r / 4096 % 64).toNat = 128 + r.toNat / 4096 % 64 := by omega
        have e2 : (128 + r / 64 % 64).toNat = 128 + r.toNat / 64 % 64 := by omega
        have e3 : (128 + r % 64).toNat = 128 + r.toNat % 64 := by omega
        rw [e0, e1, e2, e3]

theorem form_any (r : Int) (w : World) :
    Calls Try.prog 33 #[.int .i32 r] w fun e w' => e = .returned (.string ⟨(form r).toArray⟩) ∧ w = w' := by
  cases hc : isChar r with
  | true =>
    have he := encode_valid r hc
    have hc' := Lib.hid hc
    have he' := Lib.hid he
    clear he hc
    go_enter Try.func33, Try.ntmps33
    go_wp2_with (go_at_call 41; refine (character_any _ _).mono ?_; rintro e w' ⟨rfl, rfl⟩; rw [hc'.out])
    go_ret
    exact ⟨ret_str (ba_of_list he'.out), rfl⟩
  | false =>
    have hc' := Lib.hid hc
    clear hc
    go_enter Try.func33, Try.ntmps33
    go_wp2_with (go_at_call 41; refine (character_any _ _).mono ?_; rintro e w' ⟨rfl, rfl⟩; rw [hc'.out])
    go_ret
    exact ⟨ret_str (by simp [form, hc'.out]), rfl⟩


theorem extract_list (s : ByteArray) (a b : Nat) : (s.extract a b).toList = (s.data.toList.take b).drop a := by
  rw [ByteArray.toList_eq]
  simp [ByteArray.data_extract, List.extract_eq_take_drop, List.drop_take]

theorem prefix_eq (s t : List UInt8) (h : t.length ≤ s.length) : (s.take t.length == t) = t.isPrefixOf s := by
  rw [Bool.eq_iff_iff, beq_iff_eq, List.isPrefixOf_iff_prefix]
  constructor
  · intro e; rw [← e]; exact List.take_prefix _ _
  · rintro ⟨u, rfl⟩; simp

theorem prefix_any (s t : ByteArray) (w : World) :
    Calls Try.prog 46 #[.string s, .string t] w fun e w' => e = .returned (.bool (t.data.toList.isPrefixOf s.data.toList)) ∧ w = w' := by
  go_enter Try.func46, Try.ntmps46
  go_wp2
  · have h : t.size ≤ s.size := by assumption
    go_ret
    refine ⟨ret_bool ?_, rfl⟩
    rw [extract_list, ByteArray.toList_eq, List.drop_zero]
    exact prefix_eq _ _ h
  · have h : ¬ t.size ≤ s.size := by assumption
    go_ret
    refine ⟨ret_bool ?_, rfl⟩
    symm
    rw [Bool.eq_false_iff]
    intro hp
    have := (List.isPrefixOf_iff_prefix.1 hp).length_le
    exact h this

theorem begins_any (s : ByteArray) (pos : Nat) (w : World) (h : pos < s.size) (hs : s.size ≤ maxLen) :
    Calls Try.prog 40 #[.string s, .int .i64 pos, .int .i32 (Utf8.decode s pos).1] w fun e w' => e = .returned (.bool (!isBad (s.data.toList.drop pos))) ∧ w = w' := by
  have hs' := hs
  unfold maxLen at hs
  have hb := bad_iff (s.data.toList.drop pos) (by intro e; have := congrArg List.length e; simp at this; omega)
  rw [Lib.decodeL_drop] at hb
  have HB := Lib.hid hb
  clear hb
  by_cases hc : ((Utf8.decode s pos).1 : Int) = 65533
  · have hc1 : (((Utf8.decode s pos).1 : Int) == 65533) = true := by simpa using hc
    have HC := Lib.hid hc
    clear hc
    go_enter Try.func40, Try.ntmps40
    go_wp2_with (go_at_call 46; refine (prefix_any _ _ _).mono ?_; rintro e w' ⟨rfl, rfl⟩)
    go_ret
    refine ⟨ret_bool ?_, rfl⟩
    rw [HB.out]
    have : (Utf8.decode s pos).1 = 65533 := by have := HC.out; omega
    rw [List.take_of_length_le (by simp)]
    simp [this]
  · have hc1 : (((Utf8.decode s pos).1 : Int) == 65533) = false := by simpa using hc
    go_enter Try.func40, Try.ntmps40
    go_wp2
    go_ret
    refine ⟨ret_bool ?_, rfl⟩
    rw [HB.out]
    have : ¬ (Utf8.decode s pos).1 = 65533 := by omega
    simp [this]
end Go.Proofs.Ytpbkdgbmnffooaa
