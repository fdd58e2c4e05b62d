/-
  Layer 5: contract of the document's Kind.
-/
import Derived.Test.YtakbhbhikknhkaaK
namespace Go.Proofs.Ytakbhbhikknhkaa
open Go.ChangeShapes Go.WideShapes Go.ChangeAt Go.RowKit

/-- a text's kind as the document has it -/
def kindOf (l : List UInt8) : Nat :=
  if whole? l then 3 else if broken? l then 4 else if 1 < l.length ∧ l.getLast? = some 105 ∧ (whole? l.dropLast = true ∨ broken? l.dropLast = true ∨ row 10 l.dropLast = true) then 5 else 0
theorem last_of (s : ByteArray) (n : Nat) (hn : s.size = n + 1) (h : n < s.size) : s.data.toList.getLast? = some s[n] := by
  have hl : s.data.toList.length = s.size := by simp
  rw [List.getLast?_eq_getElem?, hl, hn, Nat.add_sub_cancel]; exact at_of s n h
theorem droplast_of (s : ByteArray) (n : Nat) (hn : s.size = n + 1) : (s.extract 0 n).data.toList = s.data.toList.dropLast := by
  have hl : s.data.toList.length = s.size := by simp
  rw [extract_front, List.dropLast_eq_take, hl, hn, Nat.add_sub_cancel]

set_option maxHeartbeats 4000000 in
theorem refKind_any (s : ByteArray) (hs : s.size ≤ 1048576) (w : World) :
    Calls Try.prog 11 #[.string s] w fun e w' => e = .returned (.int .u8 (kindOf s.data.toList)) ∧ Below w.heap.size w w' := by
  have hlen : s.data.toList.length = s.size := by simp
  have hA : Below w.heap.size w w := Below.refl _ _
  cases hw : whole? s.data.toList with
  | true =>
    have hr : kindOf s.data.toList = 3 := by unfold kindOf; rw [hw]; rfl
    rw [hr]
    clear hr hlen
    go_enter Try.func11, Try.ntmps11
    go_wp2_with (go_at_call 18; refine (int_any s hs _).mono ?_; rintro e w1 ⟨he, hB1⟩; rw [hw] at he; subst he; replace hA := hA.trans (hB1.mono hA.size); clear hB1)
    go_ret
    exact ⟨ret_int rfl, hA⟩
  | false =>
    cases hf : broken? s.data.toList with
    | true =>
      have hr : kindOf s.data.toList = 4 := by unfold kindOf; rw [hw, hf]; rfl
      rw [hr]
      clear hr hlen
      go_enter Try.func11, Try.ntmps11
      go_wp2_with (first
        | (go_at_call 18; refine (int_any s hs _).mono ?_; rintro e w1 ⟨he, hB1⟩; rw [hw] at he; subst he; replace hA := hA.trans (hB1.mono hA.size); clear hB1)
        | (go_at_call 19; refine (float_any s hs _).mono ?_; rintro e w1 ⟨he, hB1⟩; rw [hf] at he; subst he; replace hA := hA.trans (hB1.mono hA.size); clear hB1))
      go_ret
      exact ⟨ret_int rfl, hA⟩
    | false =>
      have hk : kindOf s.data.toList = if 1 < s.data.toList.length ∧ s.data.toList.getLast? = some 105 ∧ (whole? s.data.toList.dropLast = true ∨ broken? s.data.toList.dropLast = true ∨ row 10 s.data.toList.dropLast = true) then 5 else 0 := by
        unfold kindOf; rw [hw, hf]; rfl
      by_cases h1 : 1 < s.size
      · obtain ⟨n, hn⟩ : ∃ n, s.size = n + 1 := ⟨s.size - 1, by omega⟩
        have hz : (s.extract 0 n).size ≤ 1048576 := by simp; omega
        have i1 : n < s.size := by omega
        rw [hlen, last_of s n hn i1, ← droplast_of s n hn] at hk
        have d1 : (1 : Int) < s.size := by omega
        have e1 : (s.size : Int) - 1 = n := by omega
        have i2 : n ≤ s.size := by omega
        have b0 := bytes_n s[n] 105 105 rfl
        have HN := Lib.hid hn
        have HK := Lib.hid hk
        clear hk hn hlen
        by_cases h105 : s[n] = 105
        · have b1 : ((s[n].toNat : Int) == 105) = true := by rw [b0]; simpa using h105
          have HC := Lib.hid h105
          have HK2 := Lib.hid (show kindOf s.data.toList = if (whole? (s.extract 0 n).data.toList || broken? (s.extract 0 n).data.toList || row 10 (s.extract 0 n).data.toList) = true then 5 else 0 by rw [HK.out, h105]; simp [h1, or_assoc])
          clear b0 h105
          have t1 : True := trivial
          have t2 : True := trivial
          cases hw2 : whole? (s.extract 0 n).data.toList <;> cases hf2 : broken? (s.extract 0 n).data.toList <;> cases hr2 : row 10 (s.extract 0 n).data.toList
          all_goals
            ((first
              | (have hv : kindOf s.data.toList = 5 := (by rw [HK2.out, hw2, hf2, hr2]; rfl)
                 rw [hv]
                 clear hv)
              | (have hv : kindOf s.data.toList = 0 := (by rw [HK2.out, hw2, hf2, hr2]; rfl)
                 rw [hv]
                 clear hv))
             go_enter Try.func11, Try.ntmps11
             go_wp2_with (first
              | (go_at_call 18; clear t1; refine (int_any s hs _).mono ?_; rintro e w1 ⟨he, hB1⟩; rw [hw] at he; subst he; replace hA := hA.trans (hB1.mono hA.size); clear hB1)
              | (go_at_call 19; clear t2; refine (float_any s hs _).mono ?_; rintro e w1 ⟨he, hB1⟩; rw [hf] at he; subst he; replace hA := hA.trans (hB1.mono hA.size); clear hB1)
              | (go_at_call 18; refine (int_any _ hz _).mono ?_; rintro e w1 ⟨he, hB1⟩; rw [hw2] at he; subst he; replace hA := hA.trans (hB1.mono hA.size); clear hB1)
              | (go_at_call 19; refine (float_any _ hz _).mono ?_; rintro e w1 ⟨he, hB1⟩; rw [hf2] at he; subst he; replace hA := hA.trans (hB1.mono hA.size); clear hB1)
              | (go_at_call 20; refine (refRow_any _ hz 10 (by decide) _).mono ?_; rintro e w1 ⟨he, hB1⟩; rw [hr2] at he; subst he; replace hA := hA.trans (hB1.mono hA.size); clear hB1))
             go_ret
             exact ⟨ret_int rfl, hA⟩)
        · have b1 : ((s[n].toNat : Int) == 105) = false := by rw [b0]; simpa using h105
          have hv : kindOf s.data.toList = 0 := by rw [HK.out, if_neg (by simp [h105])]
          rw [hv]
          clear hv b0 h105
          go_enter Try.func11, Try.ntmps11
          go_wp2_with (first
            | (go_at_call 18; refine (int_any s hs _).mono ?_; rintro e w1 ⟨he, hB1⟩; rw [hw] at he; subst he; replace hA := hA.trans (hB1.mono hA.size); clear hB1)
            | (go_at_call 19; refine (float_any s hs _).mono ?_; rintro e w1 ⟨he, hB1⟩; rw [hf] at he; subst he; replace hA := hA.trans (hB1.mono hA.size); clear hB1))
          go_ret
          exact ⟨ret_int rfl, hA⟩
      · have hv : kindOf s.data.toList = 0 := by rw [hk, if_neg (by omega)]
        rw [hv]
        have d1 : ¬ (1 : Int) < s.size := by omega
        clear hv hk hlen
        go_enter Try.func11, Try.ntmps11
        go_wp2_with (first
          | (go_at_call 18; refine (int_any s hs _).mono ?_; rintro e w1 ⟨he, hB1⟩; rw [hw] at he; subst he; replace hA := hA.trans (hB1.mono hA.size); clear hB1)
          | (go_at_call 19; refine (float_any s hs _).mono ?_; rintro e w1 ⟨he, hB1⟩; rw [hf] at he; subst he; replace hA := hA.trans (hB1.mono hA.size); clear hB1))
        go_ret
        exact ⟨ret_int rfl, hA⟩
end Go.Proofs.Ytakbhbhikknhkaa
