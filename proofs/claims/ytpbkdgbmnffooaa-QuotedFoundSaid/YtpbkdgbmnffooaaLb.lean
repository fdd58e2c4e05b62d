/-
  Layer 6: the law QuotedFound: the walk.
-/
import Derived.Test.YtpbkdgbmnffooaaZ
import Derived.Test.YtpbkdgbmnffooaaMb
namespace Go.Proofs.Ytpbkdgbmnffooaa
open Go.ChangeShapes Go.WideShapes Go.ChangeAt Go.RowKit

theorem scanP_bad {l : List UInt8} {at' : Int} {K : Nat} {en e : Int} (h : scanP l at' = (K, en, e)) (he : e ≠ 0) : K = 0 ∧ en = 0 := by
  unfold scanP at h
  split at h
  · cases hr : readOf l at'.toNat with
    | none => rw [hr] at h; cases h; exact ⟨rfl, rfl⟩
    | some x =>
      rw [hr] at h
      obtain ⟨K0, L, k'⟩ := x
      have h' : (K0, ((k' : Nat) : Int), (0 : Int)) = (K, en, e) := h
      cases h'
      exact absurd rfl he
  · cases h; exact ⟨rfl, rfl⟩
set_option maxHeartbeats 4000000 in
theorem found_any (s : ByteArray) (hs : s.size ≤ 140737488351232) (at' : Int) (w : World) :
    Calls Try.prog 9 #[.string s, .int .i64 at'] w fun e w' => e = .returned (.bool true) ∧ Below w.heap.size w w' := by
  have h1 := fun w => scan_any s hs at' w
  obtain ⟨K, en, e, hr⟩ : ∃ (K : Nat) (en e : Int), scanP s.data.toList at' = (K, en, e) := ⟨_, _, _, rfl⟩
  rw [hr] at h1
  by_cases he : e = 0
  · subst he
    obtain ⟨a, n, rfl, rfl, g1, g2, g3, g4, ⟨v, hv⟩, hn⟩ := found_plain hr
    rw [show s.data.toList.length = s.size by simp] at g2
    obtain ⟨E, hE⟩ : ∃ E, E = a + n := ⟨_, rfl⟩
    obtain ⟨E1, hE1⟩ : ∃ E1, E1 = a + n - 1 := ⟨_, rfl⟩
    rw [← hE] at h1 g2
    rw [← hE1] at g3
    have e1 : (E : Int) - 1 = (E1 : Int) := by omega
    have e2 : IntKind.i64.wrap (E1 : Int) = (E1 : Int) := by rw [IntKind.wrap_i64]; omega
    have e3 : IntKind.i64.wrap ((a : Int) + 2) = (a : Int) + 2 := by rw [IntKind.wrap_i64]; omega
    have l1 : E1 < s.size := by omega
    have l2 : a < s.size := by omega
    have hsame : s[a] = s[E1] := by
      rw [at_of s E1 l1, at_of s a l2] at g3
      exact (Option.some.inj g3).symm
    have hne : ((s[a].toNat : Int) != (s[E1].toNat : Int)) = false := by rw [hsame]; simp
    have x1 : (s.extract a E).data.toList = (s.data.toList.drop a).take n := by
      have := extract_list s a E
      rw [ByteArray.toList_eq] at this
      rw [this, List.drop_take]; congr 1; omega
    have x2 : (s.extract a E1).data.toList = (s.data.toList.drop a).take (n - 1) := by
      have := extract_list s a E1
      rw [ByteArray.toList_eq] at this
      rw [this, List.drop_take]; congr 1; omega
    have h2 : ∀ w, Calls Try.prog 13 #[.string (s.extract a E)] w fun e w' => e = .returned (.tuple #[.string ⟨v.toArray⟩, .int .i64 0]) ∧ Below w.heap.size w w' := fun w => by
      have h := value_any (s.extract a E) (by rw [ByteArray.size_extract]; omega) w
      rw [x1, hv] at h
      exact h
    have h3 : ∀ w, Calls Try.prog 13 #[.string (s.extract a E1)] w fun e w' => e = .returned (.tuple #[.string ⟨#[]⟩, .int .i64 4]) ∧ Below w.heap.size w w' := fun w => by
      have h := value_any (s.extract a E1) (by rw [ByteArray.size_extract]; omega) w
      rw [x2, hn] at h
      exact h
    have b39 := bytes_n s[a] 39 39 rfl
    have hk : ((K : Int) == 6) = ((s[a].toNat : Int) == 39) := by
      rw [b39, Bool.eq_iff_iff, beq_iff_eq, decide_eq_true_iff]
      rw [at_of s a l2] at g4
      constructor
      · intro h
        have h6 : K = 6 := by omega
        simpa using g4.1 h6
      · intro h
        have := g4.2 (by rw [h])
        omega
    have s1 := fun w => slice_run s a n (E : Int) (by omega) (by omega) w
    have s2 := fun w => slice_run s a (n - 1) (E1 : Int) (by omega) (by omega) w
    rw [show a + n = E from hE.symm] at s1
    rw [show a + (n - 1) = E1 by omega] at s2
    have d1 : decide ((a : Int) < 0) = false := decide_eq_false (by omega)
    have d2 : decide (s.size < E) = false := decide_eq_false (by omega)
    have d3 : decide ((E : Int) < (a : Int) + 2) = false := decide_eq_false (by omega)
    have i1 : (a : Int) < s.size := by omega
    have i2 : (0 : Int) ≤ a := by omega
    have i3 : (E1 : Int) < s.size := by omega
    have i4 : (0 : Int) ≤ E1 := by omega
    have HF := Lib.hid (show a ≤ E ∧ E ≤ s.size ∧ a ≤ E1 by omega)
    have t1 : True := trivial
    clear hr g3 g4 hv hn hE hE1 x1 x2 hsame b39
    go_enter Try.func9, Try.ntmps9
    go_upto_region 4 with (first
      | (go_at_call 10; refine (h1 _).mono ?_; rintro e w1 ⟨rfl, hA⟩)
      | (go_at_call 12; refine (fixed_any _).mono ?_; rintro e w1 ⟨rfl, hB⟩; replace hA := hA.trans (hB.mono hA.size); clear hB))
    go_quiet (fail)
    go_wp2_with (first
      | (go_at_call 13; clear t1; refine (h2 _).mono ?_; rintro e w1 ⟨rfl, hB⟩; replace hA := (below_drewN hA _).trans (hB.mono hA.size); clear hB)
      | (go_at_call 13; refine (h3 _).mono ?_; rintro e w1 ⟨rfl, hB⟩; replace hA := hA.trans (hB.mono hA.size); clear hB))
    go_ret
    exact ⟨rfl, hA⟩
  · obtain ⟨rfl, rfl⟩ := scanP_bad hr he
    have q1 : (e != 0) = true := by simpa using he
    clear hr he
    go_enter Try.func9, Try.ntmps9
    go_wp2_with (first
      | (go_at_call 10; refine (h1 _).mono ?_; rintro e w1 ⟨rfl, hA⟩)
      | (go_at_call 12; refine (fixed_any _).mono ?_; rintro e w1 ⟨rfl, hB⟩; replace hA := hA.trans (hB.mono hA.size); clear hB))
    go_ret
    exact ⟨rfl, hA⟩
end Go.Proofs.Ytpbkdgbmnffooaa
