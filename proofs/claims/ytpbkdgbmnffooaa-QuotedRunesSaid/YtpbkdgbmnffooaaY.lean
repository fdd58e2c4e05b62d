/-
  Layer 6: the document's Begun, Scan and Value.
-/
import Derived.Test.YtpbkdgbmnffooaaXc
namespace Go.Proofs.Ytpbkdgbmnffooaa
open Go.ChangeShapes Go.WideShapes Go.ChangeAt Go.RowKit

/-- what Begun answers at any place -/
def begunV (l : List UInt8) (at' : Int) : Value :=
  if markAt l at' = true then begAns (readOf l at'.toNat) else .tuple #[.int .u8 0, .int .i64 0, .string ⟨#[]⟩, .int .i64 15]
set_option maxRecDepth 100000 in
set_option maxHeartbeats 4000000 in
theorem begun_any (s : ByteArray) (hs : s.size ≤ 140737488351232) (at' : Int) (w : World) :
    Calls Try.prog 21 #[.string s, .int .i64 at'] w fun e w' => e = .returned (begunV s.data.toList at') ∧ Below w.heap.size w w' := by
  by_cases h0 : at' < 0
  · have hr : begunV s.data.toList at' = .tuple #[.int .u8 0, .int .i64 0, .string ⟨#[]⟩, .int .i64 15] := by unfold begunV markAt; rw [decide_eq_false (by omega)]; rfl
    rw [hr]
    clear hr
    go_enter Try.func21, Try.ntmps21
    go_wp2
    exact bodyPost_ret (results_tmp4 rfl _ _ _) rfl ⟨rfl, Below.refl _ _⟩
  obtain ⟨a, rfl⟩ : ∃ a : Nat, at' = (a : Int) := ⟨at'.toNat, by omega⟩
  have ht : ((a : Int)).toNat = a := by omega
  by_cases hin : a < s.size
  · have hmk : markAt s.data.toList a = mark? s[a] := by unfold markAt; rw [decide_eq_true (by omega), ht, at_of s a hin]; rfl
    have hl : s.data.toList.length = s.size := by simp
    by_cases h96 : s[a] = 96
    · have hr : begunV s.data.toList a = begAns ((rawOf (a + 1) [] (s.data.toList.drop (a + 1))).map fun x => (7, x)) := by
        unfold begunV readOf
        rw [hmk, h96, ht, at_of s a hin, if_pos (by rfl), if_pos (by rw [h96])]
      rw [hr]
      exact begun_raw s hs a hin h96 w
    by_cases h34 : s[a] = 34
    · have hr : begunV s.data.toList a = begAns ((strOf s.data.toList (s.size - (a + 1)) (a + 1) []).map fun x => (7, x)) := by
        unfold begunV readOf
        rw [hmk, h34, ht, at_of s a hin, if_pos (by rfl), if_neg (by rw [h34]; decide), if_pos (by rw [h34]), hl]
      rw [hr]
      exact begun_str s hs a hin h34 w
    by_cases h39 : s[a] = 39
    · have hr : begunV s.data.toList a = begAns ((runeOf s.data.toList (a + 1) []).map fun x => (6, x)) := by
        unfold begunV readOf
        rw [hmk, h39, ht, at_of s a hin, if_pos (by rfl), if_neg (by rw [h39]; decide), if_neg (by rw [h39]; decide), if_pos (by rw [h39])]
      rw [hr]
      exact begun_rune s hs a hin h39 w
    have hm : mark? s[a] = false := by unfold mark?; simp [h96, h34, h39]
    have hr : begunV s.data.toList a = .tuple #[.int .u8 0, .int .i64 0, .string ⟨#[]⟩, .int .i64 15] := by
      unfold begunV; rw [hmk, hm]; rfl
    rw [hr]
    have d1 : (a : Int) < s.size := by omega
    have d2 : decide (s.size ≤ a) = false := decide_eq_false (by omega)
    have b96 := bytes_n s[a] 96 96 rfl
    have b34 := bytes_n s[a] 34 34 rfl
    have b39 := bytes_n s[a] 39 39 rfl
    rw [decide_eq_false h96] at b96
    rw [decide_eq_false h34] at b34
    rw [decide_eq_false h39] at b39
    have g96 : ((s[a].toNat : Int) != 96) = true := by rw [bne, b96]; rfl
    have g34 : ((s[a].toNat : Int) != 34) = true := by rw [bne, b34]; rfl
    have g39 : ((s[a].toNat : Int) != 39) = true := by rw [bne, b39]; rfl
    clear hr hm hmk h96 h34 h39
    go_enter Try.func21, Try.ntmps21
    go_wp2
    exact bodyPost_ret (results_tmp4 rfl _ _ _) rfl ⟨rfl, Below.refl _ _⟩
  · have hr : begunV s.data.toList a = .tuple #[.int .u8 0, .int .i64 0, .string ⟨#[]⟩, .int .i64 15] := by
      unfold begunV markAt
      rw [ht, List.getElem?_eq_none (by simp; omega)]; simp
    rw [hr]
    have d1 : ¬ (a : Int) < s.size := by omega
    have d2 : decide (s.size ≤ a) = true := decide_eq_true (by omega)
    clear hr
    go_enter Try.func21, Try.ntmps21
    go_wp2
    exact bodyPost_ret (results_tmp4 rfl _ _ _) rfl ⟨rfl, Below.refl _ _⟩
/-- Begun's answer, taken apart -/
theorem begunV_apart (l : List UInt8) (at' : Int) : ∃ (K : Nat) (k' : Int) (L : List UInt8) (e : Int), begunV l at' = .tuple #[.int .u8 K, .int .i64 k', .string ⟨L.toArray⟩, .int .i64 e] ∧ scanP l at' = (K, k', e) ∧ (at' = 0 → valueP l = if e = 0 ∧ k' = l.length then some L else none) := by
  unfold begunV scanP valueP
  by_cases hm : markAt l at' = true
  · rw [if_pos hm, if_pos hm]
    cases hr : readOf l at'.toNat with
    | none =>
      refine ⟨0, 0, [], 4, rfl, rfl, fun h => ?_⟩
      subst h
      rw [if_pos hm, show readOf l 0 = none from hr, if_neg (by omega)]; rfl
    | some x =>
      obtain ⟨K, L, k'⟩ := x
      refine ⟨K, k', L, 0, rfl, rfl, fun h => ?_⟩
      subst h
      rw [if_pos hm, show readOf l 0 = some (K, L, k') from hr]
      show (if k' = l.length then some L else none) = _
      by_cases he : k' = l.length
      · rw [if_pos he, if_pos ⟨rfl, by omega⟩]
      · rw [if_neg he, if_neg (by omega)]
  · rw [if_neg hm, if_neg hm]
    refine ⟨0, 0, [], 15, rfl, rfl, fun h => ?_⟩
    subst h
    rw [if_neg hm, if_neg (by omega)]
set_option maxHeartbeats 4000000 in
theorem docscan_any (s : ByteArray) (hs : s.size ≤ 140737488351232) (at' : Int) (w : World) :
    Calls Try.prog 11 #[.string s, .int .i64 at'] w fun e w' => e = .returned (.tuple #[.int .u8 (scanP s.data.toList at').1, .int .i64 (scanP s.data.toList at').2.1, .int .i64 (scanP s.data.toList at').2.2]) ∧ Below w.heap.size w w' := by
  have hb := fun w => begun_any s hs at' w
  obtain ⟨K, k', L, e, h1, h2, _⟩ := begunV_apart s.data.toList at'
  rw [h1] at hb
  rw [h2]
  clear h1 h2
  go_enter Try.func11, Try.ntmps11
  go_wp2_with (go_at_call 21; refine (hb _).mono ?_; rintro e w1 ⟨rfl, hB⟩)
  go_ret3
  exact ⟨rfl, hB⟩
set_option maxHeartbeats 4000000 in
theorem docvalue_any (s : ByteArray) (hs : s.size ≤ 140737488351232) (w : World) :
    Calls Try.prog 14 #[.string s] w fun e w' => e = .returned (valueAns (valueP s.data.toList)) ∧ Below w.heap.size w w' := by
  have hb := fun w => begun_any s hs 0 w
  have hl : s.data.toList.length = s.size := by simp
  obtain ⟨K, k', L, e, h1, h2, h3⟩ := begunV_apart s.data.toList 0
  rw [h1] at hb
  rw [h3 rfl, hl]
  clear h1 h2 h3
  by_cases he : e = 0
  · have q1 : (e != 0) = false := by rw [he]; rfl
    by_cases hk : k' = s.size
    · have q2 : (k' != (s.size : Int)) = false := by rw [hk]; simp
      rw [if_pos ⟨he, hk⟩]
      clear he hk
      go_enter Try.func14, Try.ntmps14
      go_wp2_with (go_at_call 21; refine (hb _).mono ?_; rintro e w1 ⟨rfl, hB⟩)
      go_ret2
      exact ⟨rfl, hB⟩
    · have q2 : (k' != (s.size : Int)) = true := by simpa using hk
      rw [if_neg (fun h => hk h.2)]
      clear he hk
      go_enter Try.func14, Try.ntmps14
      go_wp2_with (go_at_call 21; refine (hb _).mono ?_; rintro e w1 ⟨rfl, hB⟩)
      go_ret2
      exact ⟨rfl, hB⟩
  · have q1 : (e != 0) = true := by simpa using he
    rw [if_neg (fun h => he h.1)]
    clear he
    go_enter Try.func14, Try.ntmps14
    go_wp2_with (go_at_call 21; refine (hb _).mono ?_; rintro e w1 ⟨rfl, hB⟩)
    go_ret2
    exact ⟨rfl, hB⟩
end Go.Proofs.Ytpbkdgbmnffooaa
