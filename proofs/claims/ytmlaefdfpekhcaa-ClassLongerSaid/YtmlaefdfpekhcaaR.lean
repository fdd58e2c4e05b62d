/-
  The statement ClassLonger walked.
-/
import Derived.Test.YtmlaefdfpekhcaaN
import Derived.Test.YtmlaefdfpekhcaaChars
namespace Go.Proofs.Ytmlaefdfpekhcaa
open Go.ChangeShapes Go.WideShapes Go.ChangeAt Go.RowKit

theorem encode_shown (r : Int) : (Utf8.encode r).data.toList = form (shown r) := by
  unfold shown
  split
  · exact encode_valid r (by assumption)
  · rename_i h
    have hv : Utf8.valid r = false := by
      rw [Bool.not_eq_true] at h
      unfold isChar at h
      rw [decide_eq_false_iff_not] at h
      simp [Utf8.valid]
      omega
    have he : Utf8.encode r = Utf8.encode 65533 := by
      unfold Utf8.encode
      simp only [hv]
      rfl
    rw [he]
    exact encode_valid 65533 rfl
theorem longer_no (s : ByteArray) (r : Int) (hs : s.size ≤ maxLen) (h : isName s.data.toList = false) (w : World) :
    Calls Try.prog 13 #[.string s, .int .i32 r] w fun e w' => e = .returned (.bool true) ∧ Below w.heap.size w w' := by
  have HN := Lib.hid h
  clear h
  have hA : Below w.heap.size w w := Below.refl _ _
  go_enter Try.func13, Try.ntmps13
  go_wp2_with (first
    | (go_at_call 27; refine (fixed2_any _).mono ?_; rintro e w1 ⟨rfl, hB1⟩; replace hA := below_then hA hB1; clear hB1)
    | (go_at_call 36; refine (name_any s _ hs).mono ?_; rintro e w2 ⟨rfl, hB1⟩; rw [HN.out]; replace hA := below_then hA hB1; clear hB1))
  go_ret
  exact ⟨rfl, hA⟩
set_option maxHeartbeats 4000000 in
theorem longer_yes (s t : ByteArray) (r : Int) (a b c d : Bool) (hs : s.size ≤ maxLen) (hs1 : s.size ≤ 140737488351232) (ht : t.size ≤ maxLen) (HN : Hid (isName s.data.toList = true)) (HW : Hid (isWord s.data.toList = false))
    (het : s ++ Utf8.encode r = t) (HA : Hid (isName t.data.toList = a)) (HB : Hid (isWord t.data.toList = b)) (HC : Hid (inside letters r = c)) (HD : Hid (inside digits r = d)) (heq : (a || b) = (c || d)) (w : World) :
    Calls Try.prog 13 #[.string s, .int .i32 r] w fun e w' => e = .returned (.bool true) ∧ Below w.heap.size w w' := by
  have hes : (Utf8.encode r).size ≤ 4 := by
    have := congrArg List.length (encode_shown r)
    have h4 := form_len (shown r) (shown_char r)
    simp only [Array.length_toList] at this
    have h5 : (Utf8.encode r).size = (Utf8.encode r).data.size := rfl
    omega
  have hA : Below w.heap.size w w := Below.refl _ _
  cases a <;> cases b <;> cases c <;> cases d
  all_goals first
    | (simp at heq; done)
    | (clear heq
       go_enter Try.func13, Try.ntmps13
       go_wp2_with (first
         | (go_at_call 27; refine (fixed2_any _).mono ?_; rintro e w1 ⟨rfl, hB1⟩; replace hA := below_then hA hB1; clear hB1)
         | (go_at_call 36; (with_reducible refine (name_any s _ hs).mono ?_); rintro e w2 ⟨rfl, hB1⟩; rw [HN.out]; replace hA := below_then hA hB1; clear hB1)
         | (go_at_call 36; (with_reducible refine (name_any t _ ht).mono ?_); rintro e w2 ⟨rfl, hB1⟩; rw [HA.out]; replace hA := below_then hA hB1; clear hB1)
         | (go_at_call 38; (with_reducible refine (word_any s _).mono ?_); rintro e w2 ⟨rfl, rfl⟩; rw [HW.out])
         | (go_at_call 38; (with_reducible refine (word_any t _).mono ?_); rintro e w2 ⟨rfl, rfl⟩; rw [HB.out])
         | (go_at_call 28; (with_reducible refine (letter_any r _).mono ?_); rintro e w2 ⟨rfl, hB1⟩; rw [HC.out]; replace hA := below_then hA hB1; clear hB1)
         | (go_at_call 30; (with_reducible refine (digit_any r _).mono ?_); rintro e w2 ⟨rfl, hB1⟩; rw [HD.out]; replace hA := below_then hA hB1; clear hB1))
       go_ret
       exact ⟨rfl, hA⟩)
theorem classLonger_walk (s : ByteArray) (r : Int) (hs : s.size ≤ maxLen) (_w1 : (Lit.int .i32 r).wf = true) (hs1 : s.size ≤ 140737488351232) (w : World) :
    Calls Try.prog 13 #[.string s, .int .i32 r] w fun e w' => e = .returned (.bool true) ∧ Below w.heap.size w w' := by
  cases h : isName s.data.toList with
  | false => exact longer_no s r hs h w
  | true =>
    obtain ⟨_, _, _, _, hw, _⟩ := name_split _ h
    have hl := longer s.data.toList r h
    have ht : (s ++ Utf8.encode r).data.toList = s.data.toList ++ form (shown r) := by rw [← encode_shown]; simp
    rw [← ht] at hl
    have hsz : (s ++ Utf8.encode r).size ≤ maxLen := by
      have := congrArg List.length ht
      have h4 := form_len (shown r) (shown_char r)
      simp only [Array.length_toList, List.length_append] at this
      have h5 : (s ++ Utf8.encode r).size = (s ++ Utf8.encode r).data.size := rfl
      have h6 : s.size = s.data.size := rfl
      unfold maxLen
      omega
    exact longer_yes s _ r _ _ _ _ hs hs1 hsz h hw rfl rfl rfl rfl rfl hl w
end Go.Proofs.Ytmlaefdfpekhcaa
