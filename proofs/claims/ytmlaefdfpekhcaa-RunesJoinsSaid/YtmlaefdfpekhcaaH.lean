/-
  The document's examples of layer 1, and the statements RunesRead and RunesForms walked.
-/
import Derived.Test.YtmlaefdfpekhcaaD
namespace Go.Proofs.Ytmlaefdfpekhcaa
open Go.ChangeShapes Go.WideShapes Go.ChangeAt Go.RowKit

theorem ex_read1 (w : World) : Calls Try.prog 15 #[.string ⟨#[97, 195, 169]⟩, .int .i64 1] w fun e w' => e = .returned (.tuple #[.int .i32 233, .int .i64 2]) ∧ Below w.heap.size w w' := by
  have h := read_any ⟨#[97, 195, 169]⟩ 1 w (by decide) _ rfl
  have h1 : chr (if (0 : Int) ≤ 1 then (⟨#[97, 195, 169]⟩ : ByteArray).data.toList.drop (1 : Int).toNat else []) = 233 := by decide +kernel
  have h2 : wide (if (0 : Int) ≤ 1 then (⟨#[97, 195, 169]⟩ : ByteArray).data.toList.drop (1 : Int).toNat else []) = 2 := by decide +kernel
  rw [h1, h2] at h
  exact h
theorem ex_read2 (w : World) : Calls Try.prog 15 #[.string ⟨#[97, 195, 169]⟩, .int .i64 2] w fun e w' => e = .returned (.tuple #[.int .i32 0, .int .i64 0]) ∧ Below w.heap.size w w' := by
  have h := read_any ⟨#[97, 195, 169]⟩ 2 w (by decide) _ rfl
  have h1 : chr (if (0 : Int) ≤ 2 then (⟨#[97, 195, 169]⟩ : ByteArray).data.toList.drop (2 : Int).toNat else []) = 0 := by decide +kernel
  have h2 : wide (if (0 : Int) ≤ 2 then (⟨#[97, 195, 169]⟩ : ByteArray).data.toList.drop (2 : Int).toNat else []) = 0 := by decide +kernel
  rw [h1, h2] at h
  exact h
theorem ex_form (w : World) : Calls Try.prog 18 #[.int .i32 8364] w fun e w' => e = .returned (.string ⟨#[226, 130, 172]⟩) ∧ w = w' := by
  have h := form_any 8364 w
  have h1 : form 8364 = [226, 130, 172] := by decide +kernel
  rw [h1] at h
  exact h
theorem ex_bad (w : World) : Calls Try.prog 23 #[.string ⟨#[97, 255]⟩] w fun e w' => e = .returned (.int .i64 1) ∧ Below w.heap.size w w' := by
  have h := bad_any ⟨#[97, 255]⟩ w (by decide)
  have h1 : badAt (⟨#[97, 255]⟩ : ByteArray).data.toList (⟨#[97, 255]⟩ : ByteArray).size 0 = 1 := by decide +kernel
  rw [h1] at h
  exact h
set_option maxHeartbeats 1000000 in
theorem fixed1_any (w : World) : Calls Try.prog 17 #[] w fun e w' => e = .returned (.bool true) ∧ Below w.heap.size w w' := by
  go_enter Try.func17, Try.ntmps17
  go_wp2_with (first
    | (go_at_call 15; (with_reducible refine (ex_read1 _).mono ?_); rintro e w1 ⟨rfl, hB1⟩)
    | (go_at_call 15; (with_reducible refine (ex_read2 _).mono ?_); rintro e w2 ⟨rfl, hB2⟩)
    | (go_at_call 18; (with_reducible refine (ex_form _).mono ?_); rintro e w3 ⟨rfl, rfl⟩)
    | (go_at_call 23; (with_reducible refine (ex_bad _).mono ?_); rintro e w4 ⟨rfl, hB4⟩))
  go_ret
  exact ⟨rfl, (hB1.trans (hB2.mono hB1.size)).trans (hB4.mono (hB1.trans (hB2.mono hB1.size)).size)⟩

/-- a text's bytes from a place on -/
def from' (s : ByteArray) (at' : Int) : List UInt8 := if 0 ≤ at' then s.data.toList.drop at'.toNat else []
theorem rread_any (s : ByteArray) (at' : Int) (w : World) (hs : s.size ≤ maxLen) :
    Calls Try.prog 16 #[.string s, .int .i64 at'] w fun e w' => e = .returned (.tuple #[.int .i64 (chr (from' s at')), .int .i64 (wide (from' s at'))]) ∧ Below w.heap.size w w' := by
  by_cases h0 : at' < 0
  · have hc : chr (from' s at') = 0 := by unfold from'; rw [if_neg (by omega)]; simp [chr]
    have hw : wide (from' s at') = 0 := by unfold from'; rw [if_neg (by omega)]; simp [wide]
    rw [hc, hw]
    clear hc hw
    unfold maxLen at hs
    go_enter Try.func16, Try.ntmps16
    go_wp2
    go_ret2
    exact ⟨rfl, Below.refl _ _⟩
  · obtain ⟨pos, rfl⟩ : ∃ pos : Nat, at' = (pos : Int) := ⟨at'.toNat, by omega⟩
    have hl : from' s (pos : Int) = s.data.toList.drop pos := by unfold from'; rw [if_pos (by omega)]; simp
    rw [hl]
    by_cases hp : pos < s.size
    · exact rread_in s pos w hs hp
    · have hc : chr (s.data.toList.drop pos) = 0 := by rw [List.drop_of_length_le (by simp; omega)]; simp [chr]
      have hw : wide (s.data.toList.drop pos) = 0 := by rw [List.drop_of_length_le (by simp; omega)]; simp [wide]
      rw [hc, hw]
      clear hc hw hl
      unfold maxLen at hs
      go_enter Try.func16, Try.ntmps16
      go_wp2
      go_ret2
      exact ⟨rfl, Below.refl _ _⟩
theorem chr_bound (l : List UInt8) : 0 ≤ chr l ∧ chr l ≤ 1114111 := by
  unfold chr
  split
  · omega
  · have := Lib.decodeL_rune l; omega
theorem runesRead_walk (s : ByteArray) (at' : Int) (w0 : s.size ≤ maxLen) (_w1 : (Lit.int .i64 at').wf = true) (w : World) :
    Calls Try.prog 3 #[.string s, .int .i64 at'] w fun e w' => e = .returned (.bool true) ∧ Below w.heap.size w w' := by
  have hr := fun w => read_any s at' w w0 (from' s at') rfl
  obtain ⟨c, hc⟩ : ∃ c, c = chr (from' s at') := ⟨_, rfl⟩
  obtain ⟨n, hn⟩ : ∃ n, n = wide (from' s at') := ⟨_, rfl⟩
  have hR := fun w => rread_any s at' w w0
  rw [← hc, ← hn] at hR
  simp only [← hc, ← hn] at hr
  have b1 : 0 ≤ c := by rw [hc]; exact (chr_bound _).1
  have b2 : c ≤ 1114111 := by rw [hc]; exact (chr_bound _).2
  have b3 : n ≤ 4 := by rw [hn]; exact (wide_le _).1
  clear hc hn
  go_enter Try.func3, Try.ntmps3
  go_wp2_with (first
    | (go_at_call 15; refine (hr _).mono ?_; rintro e w1 ⟨rfl, hB1⟩)
    | (go_at_call 16; refine (hR _).mono ?_; rintro e w2 ⟨rfl, hB2⟩)
    | (go_at_call 17; refine (fixed1_any _).mono ?_; rintro e w3 ⟨rfl, hB3⟩))
  go_ret
  exact ⟨rfl, (hB1.trans (hB2.mono hB1.size)).trans (hB3.mono (hB1.trans (hB2.mono hB1.size)).size)⟩

theorem form_read (r : Int) (t : ByteArray) (hc : isChar r = true) (ht : t = ⟨(form r).toArray⟩) (w : World) :
    Calls Try.prog 15 #[.string (t ++ ⟨#[128]⟩), .int .i64 0] w fun e w' => e = .returned (.tuple #[.int .i32 r, .int .i64 t.size]) ∧ Below w.heap.size w w' := by
  have hl : (t ++ ⟨#[128]⟩ : ByteArray).data.toList = form r ++ [128] := by subst ht; simp
  have hsz : t.size = (form r).length := by subst ht; rfl
  have h4 := form_len r hc
  have hsz8 : (t ++ ⟨#[128]⟩ : ByteArray).size ≤ maxLen := by
    have h8 : (⟨#[128]⟩ : ByteArray).size = 1 := rfl
    rw [ByteArray.size_append, h8, hsz]
    unfold maxLen
    omega
  have h := read_any (t ++ ⟨#[128]⟩) 0 w hsz8 (form r ++ [128]) (by rw [hl]; rfl)
  have hg := form_good r [128] hc
  have hd := decode_form r [128] hc
  have h1 : chr (form r ++ [128]) = r := by
    unfold chr
    rw [if_neg (by simp [hg]), hd]
    unfold isChar at hc
    rw [decide_eq_true_eq] at hc
    simp; omega
  have h2 : wide (form r ++ [128]) = t.size := by
    unfold wide
    rw [if_neg (by simp [hg]), hd, hsz]
  rw [h1, h2] at h
  exact h
theorem empty_read (w : World) :
    Calls Try.prog 15 #[.string ⟨#[128]⟩, .int .i64 0] w fun e w' => e = .returned (.tuple #[.int .i32 0, .int .i64 0]) ∧ Below w.heap.size w w' := by
  have h := read_any ⟨#[128]⟩ 0 w (by decide) [128] rfl
  have h1 : chr [128] = 0 := by decide +kernel
  have h2 : wide [128] = 0 := by decide +kernel
  rw [h1, h2] at h
  exact h
set_option maxHeartbeats 1000000 in
theorem runesForms_walk (r : Int) (w0 : (Lit.int .i32 r).wf = true) (w : World) :
    Calls Try.prog 4 #[.int .i32 r] w fun e w' => e = .returned (.bool true) ∧ Below w.heap.size w w' := by
  obtain ⟨b1, b2⟩ := bounds_i32 w0
  clear w0
  have hf := form_any r
  have hF := rform_any r
  obtain ⟨t, ht⟩ : ∃ t : ByteArray, t = ⟨(form r).toArray⟩ := ⟨_, rfl⟩
  rw [← ht] at hF
  simp only [← ht] at hf
  cases hc : isChar r with
  | true =>
    have hr := form_read r t hc ht
    have hcc := Lib.hid hc
    have hl := form_len r hc
    have hsz : t.size = (form r).length := by subst ht; rfl
    have hz1 : 1 ≤ t.size := by omega
    have hz4 : t.size ≤ 4 := by omega
    have he : (t.toList == []) = false := by
      rw [ByteArray.toList_eq]
      cases hd : t.data.toList with
      | nil => have := congrArg List.length hd; simp at this; have h0 : t.size = 0 := by rw [ByteArray.size, this]; rfl
               omega
      | cons a b => rfl
    clear ht hsz hl hc
    go_enter Try.func4, Try.ntmps4
    go_wp2_with (first
      | (go_at_call 18; refine (hf _).mono ?_; rintro e w1 ⟨rfl, rfl⟩)
      | (go_at_call 17; refine (fixed1_any _).mono ?_; rintro e w1 ⟨rfl, hB1⟩)
      | (go_at_call 19; refine (hF _).mono ?_; rintro e w2 ⟨rfl, hB2⟩)
      | (go_at_call 15; refine (hr _).mono ?_; rintro e w3 ⟨rfl, hB3⟩))
    go_ret
    have h12 := hB1.trans (hB2.mono hB1.size)
    exact ⟨rfl, h12.trans (hB3.mono h12.size)⟩
  | false =>
    have hcc := Lib.hid hc
    have ht' : t = ⟨#[]⟩ := by subst ht; simp [form, hc]
    subst ht'
    clear ht hc
    go_enter Try.func4, Try.ntmps4
    go_wp2_with (first
      | (go_at_call 18; refine (hf _).mono ?_; rintro e w1 ⟨rfl, rfl⟩)
      | (go_at_call 17; refine (fixed1_any _).mono ?_; rintro e w1 ⟨rfl, hB1⟩)
      | (go_at_call 19; refine (hF _).mono ?_; rintro e w2 ⟨rfl, hB2⟩)
      | (go_at_call 20; refine (may_any _ _).mono ?_; rintro e w4 ⟨rfl, rfl⟩; rw [hcc.out])
      | (go_at_call 15; refine (empty_read _).mono ?_; rintro e w3 ⟨rfl, hB3⟩))
    go_ret
    have h12 := hB1.trans (hB2.mono hB1.size)
    exact ⟨rfl, h12.trans (hB3.mono h12.size)⟩
end Go.Proofs.Ytmlaefdfpekhcaa
