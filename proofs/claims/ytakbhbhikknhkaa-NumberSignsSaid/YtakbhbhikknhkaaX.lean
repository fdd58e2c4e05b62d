/-
  Layer 5: contracts of number.Scan and of the document's Scan.
-/
import Derived.Test.YtakbhbhikknhkaaV
import Derived.OwnWalk
namespace Go.Proofs.Ytakbhbhikknhkaa
open Go.ChangeShapes Go.WideShapes Go.ChangeAt Go.RowKit

theorem runFrom_ge (f : Nat → Bool) : ∀ n i, i ≤ runFrom f n i
  | 0, i => Nat.le_refl _
  | n + 1, i => by
    unfold runFrom
    split
    · have := runFrom_ge f n (i + 1); omega
    · omega
theorem starts_tail {c : UInt8} {t : List UInt8} (h : starts (c :: t) = true) : tail? c = true := by
  unfold starts at h
  rw [Bool.or_eq_true] at h
  rcases h with h | h
  · exact dig_tail h
  · rw [Bool.and_eq_true, decide_eq_true_eq] at h
    rw [h.1]; decide
theorem runLen_pos {t : List UInt8} (h : starts t = true) : 0 < runLen t := by
  match t, h with
  | c :: t, h =>
    unfold runLen
    rw [List.length_cons]
    unfold runFrom
    rw [if_pos (goes_tail (j := 0) rfl (starts_tail h))]
    have := runFrom_ge (goesOn (head? 120 88 (c :: t)) (c :: t)) t.length (0 + 1)
    omega

/-- what is found at a place, by what a text's kind is -/
def scanOf (kf : List UInt8 → Nat) (l : List UInt8) (at' : Int) : Nat × Int × Int :=
  if (decide (0 ≤ at') && starts (l.drop at'.toNat)) = true then
    (if kf ((l.drop at'.toNat).take (runLen (l.drop at'.toNat))) = 0 then (0, 0, 4) else (kf ((l.drop at'.toNat).take (runLen (l.drop at'.toNat))), ((at'.toNat + runLen (l.drop at'.toNat) : Nat) : Int), 0))
  else (0, 0, 15)
theorem slice_run (s : ByteArray) (a n : Nat) : (s.extract a (a + n)).data.toList = (s.data.toList.drop a).take n := by
  rw [extract_take, Nat.add_sub_cancel_left]

set_option maxHeartbeats 2000000 in
theorem scan_any (s : ByteArray) (hs : s.size ≤ 4611686018427387904) (at' : Int) (w : World) :
    Calls Try.prog 12 #[.string s, .int .i64 at'] w fun e w' => e = .returned (.tuple #[.int .u8 (scanOf kindP s.data.toList at').1, .int .i64 (scanOf kindP s.data.toList at').2.1, .int .i64 (scanOf kindP s.data.toList at').2.2]) ∧ Below w.heap.size w w' := by
  have hbeg := begins_any s hs at'
  obtain ⟨b, hb⟩ : ∃ b, b = (decide (0 ≤ at') && starts (s.data.toList.drop at'.toNat)) := ⟨_, rfl⟩
  rw [← hb] at hbeg
  cases b with
  | false =>
    have hr : scanOf kindP s.data.toList at' = (0, 0, 15) := by unfold scanOf; rw [if_neg (by rw [← hb]; decide)]
    rw [hr]
    clear hr hb
    go_enter Try.func12, Try.ntmps12
    go_wp2_with (go_at_call 21; refine (hbeg _).mono ?_; rintro e w1 ⟨rfl, hw⟩; rw [hw]; clear hw w1)
    go_ret3
    exact ⟨rfl, Below.refl _ _⟩
  | true =>
    have hb2 := hb.symm
    rw [Bool.and_eq_true, decide_eq_true_eq] at hb2
    obtain ⟨h0, hst⟩ := hb2
    obtain ⟨a, rfl⟩ : ∃ a : Nat, at' = (a : Int) := ⟨at'.toNat, by omega⟩
    rw [show ((a : Int)).toNat = a by omega] at hst
    have ia : a < s.size := by
      by_cases h : a < s.size
      · exact h
      · rw [List.drop_eq_nil_of_le (by simp; omega)] at hst; cases hst
    have hle := runLen_le (s.data.toList.drop a)
    have hl : s.data.toList.length = s.size := by simp
    rw [List.length_drop, hl] at hle
    have hrun := runEnd_any s hs a (by omega)
    obtain ⟨E, hE⟩ : ∃ E, E = a + runLen (s.data.toList.drop a) := ⟨_, rfl⟩
    rw [← hE] at hrun
    have hz : (s.extract a E).size ≤ 4611686018427387904 := by simp; omega
    have hkd := kind_any (s.extract a E) hz
    obtain ⟨K, hK⟩ : ∃ K, K = kindP (s.extract a E).data.toList := ⟨_, rfl⟩
    rw [← hK] at hkd
    have hr : scanOf kindP s.data.toList a = if K = 0 then (0, 0, 4) else (K, (E : Int), 0) := by
      unfold scanOf
      rw [if_pos hb.symm, show ((a : Int)).toNat = a by omega, ← slice_run, ← hE, ← hK]
    rw [hr]
    have haE : a ≤ E := by omega
    have hEs : E ≤ s.size := by omega
    have hA : Below w.heap.size w w := Below.refl _ _
    clear hr hK hE hle hl hst hb h0
    by_cases hk0 : K = 0
    · subst hk0
      rw [if_pos rfl]
      go_enter Try.func12, Try.ntmps12
      go_wp2_with (first
        | (go_at_call 21; refine (hbeg _).mono ?_; rintro e w1 ⟨rfl, hw⟩; rw [hw]; clear hw w1)
        | (go_at_call 22; refine (hrun _).mono ?_; rintro e w1 ⟨rfl, hB⟩; replace hA := hA.trans (hB.mono hA.size); clear hB)
        | (go_at_call 10; refine (hkd _).mono ?_; rintro e w1 ⟨rfl, hB⟩; replace hA := hA.trans (hB.mono hA.size); clear hB))
      go_ret3
      exact ⟨rfl, hA⟩
    · rw [if_neg hk0]
      have d1 : ((K : Int) == 0) = false := by rw [beq_eq_false_iff_ne]; omega
      go_enter Try.func12, Try.ntmps12
      go_wp2_with (first
        | (go_at_call 21; refine (hbeg _).mono ?_; rintro e w1 ⟨rfl, hw⟩; rw [hw]; clear hw w1)
        | (go_at_call 22; refine (hrun _).mono ?_; rintro e w1 ⟨rfl, hB⟩; replace hA := hA.trans (hB.mono hA.size); clear hB)
        | (go_at_call 10; refine (hkd _).mono ?_; rintro e w1 ⟨rfl, hB⟩; replace hA := hA.trans (hB.mono hA.size); clear hB))
      go_ret3
      exact ⟨rfl, hA⟩

set_option maxHeartbeats 2000000 in
theorem refScan_any (s : ByteArray) (hs : s.size ≤ 1048576) (at' : Int) (h0 : -9223372036854775808 ≤ at') (h1 : at' ≤ 9223372036854775807) (w : World) :
    Calls Try.prog 13 #[.string s, .int .i64 at'] w fun e w' => e = .returned (.tuple #[.int .u8 (scanOf kindOf s.data.toList at').1, .int .i64 (scanOf kindOf s.data.toList at').2.1, .int .i64 (scanOf kindOf s.data.toList at').2.2]) ∧ Below w.heap.size w w' := by
  have hA : Below w.heap.size w w := Below.refl _ _
  by_cases hb : (decide (0 ≤ at') && starts (s.data.toList.drop at'.toNat)) = true
  · have hb2 := hb
    rw [Bool.and_eq_true, decide_eq_true_eq] at hb2
    obtain ⟨h0, hst⟩ := hb2
    obtain ⟨a, rfl⟩ : ∃ a : Nat, at' = (a : Int) := ⟨at'.toNat, by omega⟩
    rw [show ((a : Int)).toNat = a by omega] at hst
    have ia : a < s.size := by
      by_cases h : a < s.size
      · exact h
      · rw [List.drop_eq_nil_of_le (by simp; omega)] at hst; cases hst
    have hle := runLen_le (s.data.toList.drop a)
    have hpos := runLen_pos hst
    have hl : s.data.toList.length = s.size := by simp
    rw [List.length_drop, hl] at hle
    have hrun := refRun_yes s hs a ia hst
    obtain ⟨E, hE⟩ : ∃ E, E = a + runLen (s.data.toList.drop a) := ⟨_, rfl⟩
    rw [← hE] at hrun
    have hz : (s.extract a E).size ≤ 1048576 := by simp; omega
    have hkd := refKind_any (s.extract a E) hz
    obtain ⟨K, hK⟩ : ∃ K, K = kindOf (s.extract a E).data.toList := ⟨_, rfl⟩
    rw [← hK] at hkd
    have hr : scanOf kindOf s.data.toList a = if K = 0 then (0, 0, 4) else (K, (E : Int), 0) := by
      unfold scanOf
      rw [if_pos hb, show ((a : Int)).toNat = a by omega, ← slice_run, ← hE, ← hK]
    rw [hr]
    have haE : a ≤ E := by omega
    have hEs : E ≤ s.size := by omega
    have d2 : ((E : Int) == (a : Int)) = false := by rw [beq_eq_false_iff_ne]; omega
    clear hr hK hE hle hl hst hb hpos
    by_cases hk0 : K = 0
    · subst hk0
      rw [if_pos rfl]
      go_enter Try.func13, Try.ntmps13
      go_wp2_with (first
        | (go_at_call 23; refine (hrun _).mono ?_; rintro e w1 ⟨rfl, hB⟩; replace hA := hA.trans (hB.mono hA.size); clear hB)
        | (go_at_call 11; refine (hkd _).mono ?_; rintro e w1 ⟨rfl, hB⟩; replace hA := hA.trans (hB.mono hA.size); clear hB))
      go_ret3
      exact ⟨rfl, hA⟩
    · rw [if_neg hk0]
      have d1 : ((K : Int) == 0) = false := by rw [beq_eq_false_iff_ne]; omega
      go_enter Try.func13, Try.ntmps13
      go_wp2_with (first
        | (go_at_call 23; refine (hrun _).mono ?_; rintro e w1 ⟨rfl, hB⟩; replace hA := hA.trans (hB.mono hA.size); clear hB)
        | (go_at_call 11; refine (hkd _).mono ?_; rintro e w1 ⟨rfl, hB⟩; replace hA := hA.trans (hB.mono hA.size); clear hB))
      go_ret3
      exact ⟨rfl, hA⟩
  · have hr : scanOf kindOf s.data.toList at' = (0, 0, 15) := by unfold scanOf; rw [if_neg hb]
    rw [hr]
    have hrun := refRun_no s hs at' h0 h1 (fun h => by
      rw [decide_eq_true h, Bool.true_and] at hb
      simpa using hb)
    clear hr hb
    go_enter Try.func13, Try.ntmps13
    go_wp2_with (go_at_call 23; refine (hrun _).mono ?_; rintro e w1 ⟨rfl, hB⟩; replace hA := hA.trans (hB.mono hA.size); clear hB)
    go_ret3
    exact ⟨rfl, hA⟩
end Go.Proofs.Ytakbhbhikknhkaa
