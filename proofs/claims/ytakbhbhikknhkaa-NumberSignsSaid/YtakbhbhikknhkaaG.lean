/-
  Layer 5: contracts of the document's under and Power.
-/
import Derived.Test.YtakbhbhikknhkaaF
import Derived.Lib.Bytealg
namespace Go.Proofs.Ytakbhbhikknhkaa
open Go.ChangeShapes Go.WideShapes Go.ChangeAt Go.RowKit

theorem extract_take (s : ByteArray) (a b : Nat) : (s.extract a b).data.toList = (s.data.toList.drop a).take (b - a) := by
  simp [ByteArray.data_extract, List.extract_eq_take_drop]
theorem extract_drop (s : ByteArray) (a : Nat) : (s.extract a s.size).data.toList = s.data.toList.drop a := by
  rw [extract_take]; apply List.take_of_length_le; simp
/-- a row, or _ and a row -/
def under (base : Nat) (l : List UInt8) : Bool := row base l || (l.head? == some 95 && row base (l.drop 1))
theorem one_of (s : ByteArray) (h0 : 0 < s.size) : s.data.toList.head? = some s[0] := by
  rw [List.head?_eq_getElem?]; exact at_of s 0 h0

set_option maxHeartbeats 2000000 in
theorem under_any (s : ByteArray) (hs : s.size ≤ 1048576) (base : Nat) (hb : base ≤ 16) (w : World) :
    Calls Try.prog 29 #[.string s, .int .i64 base] w fun e w' => e = .returned (.bool (under base s.data.toList)) ∧ Below w.heap.size w w' := by
  have hlen : s.data.toList.length = s.size := by simp
  cases hr : row base s.data.toList with
  | true =>
    have hu : under base s.data.toList = true := by unfold under; rw [hr]; rfl
    rw [hu]
    go_enter Try.func29, Try.ntmps29
    go_wp2_with (go_at_call 20; refine (refRow_any s hs base hb _).mono ?_; rintro e w1 ⟨he, hB1⟩; rw [hr] at he; subst he)
    go_ret
    exact ⟨ret_bool rfl, hB1⟩
  | false =>
    by_cases h1 : 1 < s.size
    · have i0 : 0 < s.size := by omega
      have i1 : (1 : Int) < s.size := by omega
      have hu : under base s.data.toList = (decide (s[0] = 95) && row base (s.extract 1 s.size).data.toList) := by
        have e : (some s[0] == some 95) = decide (s[0] = 95) := by rw [Bool.eq_iff_iff]; simp
        unfold under; rw [hr, one_of s i0, extract_drop, Bool.false_or, e]
      rw [hu]
      have hz : (s.extract 1 s.size).size ≤ 1048576 := by simp; omega
      have b0 := bytes_n s[0] 95 95 rfl
      clear hu
      cases hc : decide (s[0] = 95) with
      | false =>
        rw [hc] at b0
        go_enter Try.func29, Try.ntmps29
        go_wp2_with (go_at_call 20; refine (refRow_any s hs base hb _).mono ?_; rintro e w1 ⟨he, hB1⟩; rw [hr] at he; subst he)
        go_ret
        exact ⟨ret_bool rfl, hB1⟩
      | true =>
        rw [hc] at b0
        have tok : True := trivial
        cases hr2 : row base (s.extract 1 s.size).data.toList with
        | false =>
          go_enter Try.func29, Try.ntmps29
          go_wp2_with (first
            | (go_at_call 20; clear tok; refine (refRow_any s hs base hb _).mono ?_; rintro e w1 ⟨he, hB1⟩; rw [hr] at he; subst he)
            | (go_at_call 20; refine (refRow_any _ hz base hb _).mono ?_; rintro e w2 ⟨he, hB2⟩; rw [hr2] at he; subst he))
          go_ret
          exact ⟨ret_bool rfl, below_chain hB1 hB2⟩
        | true =>
          go_enter Try.func29, Try.ntmps29
          go_wp2_with (first
            | (go_at_call 20; clear tok; refine (refRow_any s hs base hb _).mono ?_; rintro e w1 ⟨he, hB1⟩; rw [hr] at he; subst he)
            | (go_at_call 20; refine (refRow_any _ hz base hb _).mono ?_; rintro e w2 ⟨he, hB2⟩; rw [hr2] at he; subst he))
          go_ret
          exact ⟨ret_bool rfl, below_chain hB1 hB2⟩
    · have i1 : ¬ (1 : Int) < s.size := by omega
      have hu : under base s.data.toList = false := by
        unfold under; rw [hr]
        have : s.data.toList.drop 1 = [] := List.drop_eq_nil_of_le (by omega)
        rw [this]; simp [row]
      rw [hu]
      go_enter Try.func29, Try.ntmps29
      go_wp2_with (go_at_call 20; refine (refRow_any s hs base hb _).mono ?_; rintro e w1 ⟨he, hB1⟩; rw [hr] at he; subst he)
      go_ret
      exact ⟨ret_bool rfl, hB1⟩
end Go.Proofs.Ytakbhbhikknhkaa
