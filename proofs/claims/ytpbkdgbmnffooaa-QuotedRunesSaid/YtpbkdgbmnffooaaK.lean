/-
  Layer 6: contracts of quoted.Scan and Value.
-/
import Derived.Test.YtpbkdgbmnffooaaJ
namespace Go.Proofs.Ytpbkdgbmnffooaa
open Go.ChangeShapes Go.WideShapes Go.ChangeAt Go.RowKit

theorem rd_new (w : World) (s : ByteArray) (k : Nat) (hk : k ≤ s.size) : Rd (w.alloc (.cells #[.string s, .int .i64 k, .slice none 0 0] 39)) w.heap.size s k (.slice none 0 0) [] := by
  refine ⟨?_, World.ownsRow_nil _ _ _ _, hk⟩
  show (w.heap.push _)[w.heap.size]? = _
  simp
theorem readOf_kind {l : List UInt8} {k K : Nat} {L : List UInt8} {k' : Nat} (h : readOf l k = some (K, L, k')) : K = 6 ∨ K = 7 := by
  unfold readOf at h
  split at h
  · cases hr : rawOf (k + 1) [] (l.drop (k + 1)) with
    | none => rw [hr] at h; cases h
    | some x => rw [hr] at h; cases h; exact .inr rfl
  · split at h
    · cases hr : strOf l (l.length - (k + 1)) (k + 1) [] with
      | none => rw [hr] at h; cases h
      | some x => rw [hr] at h; cases h; exact .inr rfl
    · split at h
      · cases hr : runeOf l (k + 1) [] with
        | none => rw [hr] at h; cases h
        | some x => rw [hr] at h; cases h; exact .inl rfl
      · cases h
/-- does a text in marks begin at a place? -/
def markAt (l : List UInt8) (at' : Int) : Bool := decide (0 ≤ at') && (match l[at'.toNat]? with | some c => mark? c | none => false)
/-- what Scan says of a reading -/
def scanAns : Option (Nat × List UInt8 × Nat) → Nat × Int × Int
  | some (K, _, k') => (K, (k' : Int), 0)
  | none => (0, 0, 4)
/-- what Scan answers -/
def scanP (l : List UInt8) (at' : Int) : Nat × Int × Int :=
  if markAt l at' = true then scanAns (readOf l at'.toNat) else (0, 0, 15)

set_option maxHeartbeats 4000000 in
theorem scan_any (s : ByteArray) (hs : s.size ≤ 140737488351232) (at' : Int) (w : World) :
    Calls Try.prog 10 #[.string s, .int .i64 at'] w fun e w' => e = .returned (.tuple #[.int .u8 (scanP s.data.toList at').1, .int .i64 (scanP s.data.toList at').2.1, .int .i64 (scanP s.data.toList at').2.2]) ∧ Below w.heap.size w w' := by
  by_cases h0 : at' < 0
  · have hr : scanP s.data.toList at' = (0, 0, 15) := by unfold scanP markAt; rw [decide_eq_false (by omega)]; rfl
    rw [hr]
    clear hr
    go_enter Try.func10, Try.ntmps10
    go_wp2
    go_ret3
    exact ⟨rfl, Below.refl _ _⟩
  · obtain ⟨a, rfl⟩ : ∃ a : Nat, at' = (a : Int) := ⟨at'.toNat, by omega⟩
    have ht : ((a : Int)).toNat = a := by omega
    by_cases hin : a < s.size
    · have d2 : (a : Int) < s.size := by omega
      have hmk : markAt s.data.toList a = mark? s[a] := by unfold markAt; rw [decide_eq_true (by omega), ht, at_of s a hin]; rfl
      have hmc := fun w => mark_any s[a] w
      obtain ⟨m, hm⟩ : ∃ m, m = mark? s[a] := ⟨_, rfl⟩
      rw [← hm] at hmk hmc
      cases m with
      | false =>
        have hr : scanP s.data.toList a = (0, 0, 15) := by unfold scanP; rw [hmk]; rfl
        rw [hr]
        clear hr hmk hm
        go_enter Try.func10, Try.ntmps10
        go_wp2_with (go_at_call 19; refine (hmc _).mono ?_; rintro e w1 ⟨rfl, hw⟩; rw [hw]; clear hw w1)
        go_ret3
        exact ⟨rfl, Below.refl _ _⟩
      | true =>
        obtain ⟨A, hA⟩ : ∃ A, A = readOf s.data.toList a := ⟨_, rfl⟩
        have hr : scanP s.data.toList a = scanAns A := by unfold scanP; rw [hmk, if_pos rfl, ht, ← hA]
        have hrd := reader_any s hs w.heap.size a (.slice none 0 0) (w.alloc (.cells #[.string s, .int .i64 a, .slice none 0 0] 39)) (rd_new w s a (by omega)) hin
        rw [← hA] at hrd
        have hB0 : Below w.heap.size w (w.alloc (.cells #[.string s, .int .i64 a, .slice none 0 0] 39)) := (Below.refl _ w).alloc (Nat.le_refl _) _
        have HAk := Lib.hid hA
        clear hmk hm
        cases A with
        | none =>
          have hr2 : scanP s.data.toList a = (0, 0, 4) := hr
          rw [hr2]
          clear hr hr2 hA
          go_enter Try.func10, Try.ntmps10
          go_wp2_with (first
            | (go_at_call 19; refine (hmc _).mono ?_; rintro e w1 ⟨rfl, hw⟩; rw [hw]; clear hw w1)
            | (go_at_call 20; refine hrd.mono ?_; rintro e w2 ⟨he, _, hB2⟩; have he' : e = .returned (.int .u8 0) := he; clear he; subst he'))
          go_ret3
          exact ⟨rfl, hB0.trans hB2⟩
        | some x =>
          obtain ⟨K, L, k'⟩ := x
          have hr2 : scanP s.data.toList a = (K, (k' : Int), 0) := hr
          have hk := readOf_kind HAk.out.symm
          have d5 : ((K : Int) == 0) = false := by rw [beq_eq_false_iff_ne]; omega
          rw [hr2]
          clear hr hr2 hA hk
          go_enter Try.func10, Try.ntmps10
          go_wp2_with (first
            | (go_at_call 19; refine (hmc _).mono ?_; rintro e w1 ⟨rfl, hw⟩; rw [hw]; clear hw w1)
            | (go_at_call 20; refine hrd.mono ?_; rintro e w2 ⟨he, hN, hB2⟩; have he' : e = .returned (.int .u8 K) := he; clear he; subst he'; obtain ⟨v2, hR2⟩ := hN K L k' rfl; have e1 := hR2.c1; have HB2 := Lib.hid (hB0.trans hB2); clear hN hR2 hB2))
          go_upto_region 7 with fail
          go_quiet (fail)
          go_wp2
          go_ret3
          exact ⟨rfl, below_drewN HB2.out _⟩
    · have hr : scanP s.data.toList a = (0, 0, 15) := by
        unfold scanP markAt
        rw [ht, List.getElem?_eq_none (by simp; omega)]; simp
      rw [hr]
      have d2 : (s.size : Int) ≤ a := by omega
      clear hr
      go_enter Try.func10, Try.ntmps10
      go_wp2
      go_ret3
      exact ⟨rfl, Below.refl _ _⟩
end Go.Proofs.Ytpbkdgbmnffooaa
