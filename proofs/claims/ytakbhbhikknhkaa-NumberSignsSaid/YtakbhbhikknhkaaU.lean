/-
  Layer 5: contracts of number.begins, of the closure that tells a sign, of runEnd.
-/
import Derived.Test.YtakbhbhikknhkaaT
import Derived.Test.YtakbhbhikknhkaaN
namespace Go.Proofs.Ytakbhbhikknhkaa
open Go.ChangeShapes Go.WideShapes Go.ChangeAt Go.RowKit

theorem dig_ten (c : UInt8) : dig 10 c = (decide (48 ≤ c.toNat) && decide (c.toNat ≤ 57)) := by
  unfold dig val
  rw [Bool.eq_iff_iff]
  simp
  split
  · omega
  · split
    · omega
    · split <;> omega
set_option maxHeartbeats 2000000 in
theorem begins_any (s : ByteArray) (hs : s.size ≤ 4611686018427387904) (at' : Int) (w : World) :
    Calls Try.prog 21 #[.string s, .int .i64 at'] w fun e w' => e = .returned (.bool (decide (0 ≤ at') && starts (s.data.toList.drop at'.toNat))) ∧ w' = w := by
  by_cases h0 : at' < 0
  · rw [decide_eq_false (by omega), Bool.false_and]
    go_enter Try.func21, Try.ntmps21
    go_wp2
    go_ret
    exact ⟨rfl, rfl⟩
  · obtain ⟨a, rfl⟩ : ∃ a : Nat, at' = (a : Int) := ⟨at'.toNat, by omega⟩
    rw [decide_eq_true (by omega), Bool.true_and, show ((a : Int)).toNat = a by omega]
    by_cases h3 : (s.size : Int) ≤ a
    · rw [List.drop_eq_nil_of_le (by simp; omega)]
      go_enter Try.func21, Try.ntmps21
      go_wp2
      go_ret
      exact ⟨rfl, rfl⟩
    · have ia : a < s.size := by omega
      rw [starts_at s a ia]
      have b0 := bytes_n s[a] 46 46 rfl
      by_cases h46 : s[a] = 46
      · have c0 : ((s[a].toNat : Int) == 46) = true := by rw [b0]; simpa using h46
        rw [h46, show dig 10 46 = false by decide]
        simp only [decide_true, Bool.false_or, Bool.true_and]
        by_cases h4 : a + 1 < s.size
        · rw [dif_pos h4, dig_ten]
          have d1 : (a : Int) + 1 < s.size := by omega
          clear h46 b0
          go_enter Try.func21, Try.ntmps21
          go_wp2
          all_goals
            go_ret
            exact ⟨ret_bool (by rw [Bool.eq_iff_iff]; simp; omega), rfl⟩
        · rw [dif_neg h4]
          have d1 : ¬ (a : Int) + 1 < s.size := by omega
          clear h46 b0
          go_enter Try.func21, Try.ntmps21
          go_wp2
          go_ret
          exact ⟨rfl, rfl⟩
      · have c0 : ((s[a].toNat : Int) == 46) = false := by rw [b0]; simpa using h46
        rw [decide_eq_false h46, Bool.false_and, Bool.or_false, dig_ten]
        have d1 : (a : Int) < s.size := by omega
        clear h46 b0
        go_enter Try.func21, Try.ntmps21
        go_wp2
        all_goals
          go_ret
          exact ⟨ret_bool (by rw [Bool.eq_iff_iff]; simp; omega), rfl⟩

/-- does a sign at a place belong to a run that begins at a? -/
def signed? (pw l : List UInt8) (a i : Nat) : Bool :=
  match l[i]? with
  | none => false
  | some c => (decide (c = 43) || decide (c = 45)) && (decide (a < i) && (match l[i - 1]? with | none => false | some d => pw.contains d))
set_option maxHeartbeats 4000000 in
theorem signed_c (s pw : ByteArray) (hs : s.size ≤ 4611686018427387904) (a i q r p : Nat) (hi : i < s.size) (w : World) (hq : w.cell? ⟨q, 0, none⟩ = some (.string s)) (hr : w.cell? ⟨r, 0, none⟩ = some (.int .i64 a)) (hp : w.cell? ⟨p, 0, none⟩ = some (.string pw)) :
    Calls Try.prog 35 #[.int .i64 i, .pointer (some ⟨q, 0, none⟩), .pointer (some ⟨r, 0, none⟩), .pointer (some ⟨p, 0, none⟩)] w fun e w' => e = .returned (.bool (signed? pw.data.toList s.data.toList a i)) ∧ ∃ n, w' = w.drewN n := by
  have hx := at_of s i hi
  obtain ⟨v, hv⟩ : ∃ v, v = signed? pw.data.toList s.data.toList a i := ⟨_, rfl⟩
  rw [← hv]
  unfold signed? at hv
  rw [hx] at hv
  dsimp only at hv
  have b1 := bytes_n s[i] 43 43 rfl
  have b2 := bytes_n s[i] 45 45 rfl
  have d0 : (0 : Int) ≤ i := by omega
  have d1 : (i : Int) < s.size := by omega
  clear hx
  by_cases hsg : (decide (s[i] = 43) || decide (s[i] = 45)) = true
  · rw [hsg, Bool.true_and] at hv
    by_cases hai : a < i
    · obtain ⟨j, hj⟩ : ∃ j, i = j + 1 := ⟨i - 1, by omega⟩
      have ij : j < s.size := by omega
      rw [decide_eq_true hai, Bool.true_and, show i - 1 = j by omega, at_of s j ij] at hv
      dsimp only at hv
      have hI := indexByte_has s[j] pw.data.toList
      rw [← hv] at hI
      have hix := fun (n : Nat) => Try.strings_IndexByte pw (s[j].toNat : Int) (w.drewN n)
      simp only [show ((s[j].toNat : Int)).toNat.toUInt8 = s[j] by simp] at hix
      obtain ⟨I, hII⟩ : ∃ I, I = Lib.indexByte pw.data.toList s[j] := ⟨_, rfl⟩
      rw [← hII] at hI
      simp only [← hII] at hix
      have w1 : IntKind.i64.wrap ((i : Int) - 1) = (j : Int) := by rw [IntKind.wrap_i64]; omega
      have d2 : (0 : Int) ≤ j := by omega
      have d3 : (j : Int) < s.size := by omega
      have d5 : decide (a < i) = true := decide_eq_true hai
      have d6 : decide (0 ≤ I) = v := by
        cases v with
        | true => have := of_decide_eq_false hI; exact decide_eq_true (by omega)
        | false => have := of_decide_eq_true hI; exact decide_eq_false (by omega)
      clear hv hI hII hai hj
      by_cases h43 : s[i] = 43
      · rw [decide_eq_true h43] at b1
        clear b2 hsg h43
        go_enter Try.func35, Try.ntmps35
        go_upto_region 1 with fail
        go_quiet ((go_at_call 36; refine (hix _).mono ?_; rintro e w' ⟨rfl, rfl⟩; exact ⟨rfl, _, rfl⟩))
        go_wp2
        go_ret
        exact ⟨ret_bool (by first | rfl | exact d6), _, rfl⟩
      · rw [decide_eq_false h43] at b1
        have h45 : s[i] = 45 := by simpa [h43] using hsg
        rw [decide_eq_true h45] at b2
        clear hsg h43 h45
        go_enter Try.func35, Try.ntmps35
        go_upto_region 1 with fail
        go_quiet ((go_at_call 36; refine (hix _).mono ?_; rintro e w' ⟨rfl, rfl⟩; exact ⟨rfl, _, rfl⟩))
        go_wp2
        go_ret
        exact ⟨ret_bool (by first | rfl | exact d6), _, rfl⟩
    · rw [decide_eq_false hai, Bool.false_and] at hv
      subst hv
      have d5 : decide (a < i) = false := decide_eq_false (by omega)
      by_cases h43 : s[i] = 43
      · rw [decide_eq_true h43] at b1
        clear b2 hsg h43 hai
        go_enter Try.func35, Try.ntmps35
        go_upto_region 1 with fail
        go_quiet (fail)
        go_wp2
        go_ret
        exact ⟨rfl, _, rfl⟩
      · rw [decide_eq_false h43] at b1
        have h45 : s[i] = 45 := by simpa [h43] using hsg
        rw [decide_eq_true h45] at b2
        clear hsg h43 h45 hai
        go_enter Try.func35, Try.ntmps35
        go_upto_region 1 with fail
        go_quiet (fail)
        go_wp2
        go_ret
        exact ⟨rfl, _, rfl⟩
  · have hsf : (decide (s[i] = 43) || decide (s[i] = 45)) = false := by simpa using hsg
    rw [hsf, Bool.false_and] at hv
    subst hv
    rw [Bool.or_eq_false_iff] at hsf
    rw [hsf.1] at b1
    rw [hsf.2] at b2
    clear hsg hsf
    go_enter Try.func35, Try.ntmps35
    go_upto_region 1 with fail
    go_quiet (fail)
    go_wp2
    go_ret
    exact ⟨rfl, _, rfl⟩
end Go.Proofs.Ytakbhbhikknhkaa
