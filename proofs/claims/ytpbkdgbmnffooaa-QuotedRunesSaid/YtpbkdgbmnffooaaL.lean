/-
  Layer 6: contract of quoted.Value.
-/
import Derived.Test.YtpbkdgbmnffooaaK
namespace Go.Proofs.Ytpbkdgbmnffooaa
open Go.ChangeShapes Go.WideShapes Go.ChangeAt Go.RowKit

theorem conv_own {w : World} {base : Nat} {v : Value} {l : List UInt8} (h : w.ownsRow base 5 1 v l.length (bvals l)) :
    (convert 32 9 v).run Try.prog w = .ok (.string ⟨l.toArray⟩) w := by
  rcases h.2 with ⟨rfl, h0⟩ | ⟨g, cap, cur, rfl, hb, hg, hn, hm, hs, ht⟩
  · have : l = [] := List.eq_nil_of_length_eq_zero h0
    subst this
    rw [run_convert_bytes_string _ 32 9 5 _ _ _ Try.underlying32 Try.underlying5 Try.underlying9]
    rfl
  · have hv : bvals l = (l.map fun x => (x.toNat : Int)).map (Value.int .u8) := by unfold bvals; rw [List.map_map]; rfl
    rw [run_convert_bytes_string _ 32 9 5 _ _ _ Try.underlying32 Try.underlying5 Try.underlying9, run_bytesToString _ _ _ _ (l.map fun x => (x.toNat : Int))]
    · congr 2
      have h1 := foldl_bytes (l.map fun x => (x.toNat : Int)) ByteArray.empty
      have h2 : (ByteArray.empty.data.toList ++ (l.map fun x => (x.toNat : Int)).map fun n => UInt8.ofNat n.toNat) = l := by
        rw [List.map_map]
        have : ((fun n : Int => UInt8.ofNat n.toNat) ∘ fun x : UInt8 => (x.toNat : Int)) = id := by funext x; simp
        rw [this]; simp
      rw [h2] at h1
      apply ByteArray.ext
      apply Array.ext'
      rw [h1]
    · have hl : (bvals l).length = l.length := by simp [bvals]
      have := run_loadCells_list (P := Try.prog) (w := w) ⟨g, 0, none⟩ (bvals l) (fun j x hj => by
        have ha : (⟨g, 0, none⟩ : Addr).add j = ⟨g, j, none⟩ := by unfold Addr.add; split <;> simp_all
        rw [ha]
        unfold World.cell?
        simp only [hg]
        rw [← ht, List.getElem?_take] at hj
        split at hj
        · simpa using hj
        · cases hj)
      rw [hl, hv] at this
      exact this

/-- what a reading says, where it ends with the text -/
def valueOf (n : Nat) : Option (Nat × List UInt8 × Nat) → Option (List UInt8)
  | some (_, L, k') => if k' = n then some L else none
  | none => none
/-- what a text in marks says, where it is all of a text -/
def valueP (l : List UInt8) : Option (List UInt8) :=
  if markAt l 0 = true then valueOf l.length (readOf l 0) else none
/-- what Value answers -/
def valueAns : Option (List UInt8) → Value
  | some L => .tuple #[.string ⟨L.toArray⟩, .int .i64 0]
  | none => .tuple #[.string ⟨#[]⟩, .int .i64 4]

set_option maxHeartbeats 4000000 in
theorem value_any (s : ByteArray) (hs : s.size ≤ 140737488351232) (w : World) :
    Calls Try.prog 13 #[.string s] w fun e w' => e = .returned (valueAns (valueP s.data.toList)) ∧ Below w.heap.size w w' := by
  have hl : s.data.toList.length = s.size := by simp
  have hB0 : Below w.heap.size w (w.alloc (.cells #[.string s, .int .i64 0, .slice none 0 0] 39)) := (Below.refl _ w).alloc (Nat.le_refl _) _
  by_cases hin : 0 < s.size
  · have hmk : markAt s.data.toList 0 = mark? s[0] := by unfold markAt; rw [decide_eq_true (by omega)]; show (true && match s.data.toList[0]? with | some c => mark? c | none => false) = _; rw [at_of s 0 hin]; rfl
    have hmc := fun w => mark_any s[0] w
    have d2 : (0 : Int) < s.size := by omega
    have hse : (s.toList == []) = false := by
      rw [ByteArray.toList_eq, beq_eq_false_iff_ne]
      intro e
      have := congrArg List.length e
      rw [hl, List.length_nil] at this
      omega
    obtain ⟨m, hm⟩ : ∃ m, m = mark? s[0] := ⟨_, rfl⟩
    rw [← hm] at hmk hmc
    cases m with
    | false =>
      have hr : valueP s.data.toList = none := by unfold valueP; rw [hmk]; rfl
      rw [hr]
      clear hr hmk hm
      go_enter Try.func13, Try.ntmps13
      go_wp2_with (first
        | (go_at_call 19; refine (hmc _).mono ?_; rintro e w1 ⟨rfl, hw⟩; rw [hw]; clear hw w1)
        | fail)
      go_ret2
      exact ⟨rfl, hB0⟩
    | true =>
      have hrd := reader_any s hs w.heap.size 0 (.slice none 0 0) (w.alloc (.cells #[.string s, .int .i64 0, .slice none 0 0] 39)) (rd_new w s 0 (by omega)) hin
      obtain ⟨A, hA⟩ : ∃ A, A = readOf s.data.toList 0 := ⟨_, rfl⟩
      rw [← hA] at hrd
      have hr : valueP s.data.toList = valueOf s.data.toList.length A := by unfold valueP; rw [hmk, if_pos rfl, ← hA]
      rw [hl] at hr
      have HAk := Lib.hid hA
      clear hmk hm hA
      rw [hr]
      clear hr
      cases A with
      | none =>
        show Calls _ _ _ _ fun e w' => e = .returned (valueAns none) ∧ _
        go_enter Try.func13, Try.ntmps13
        go_wp2_with (first
          | (go_at_call 19; refine (hmc _).mono ?_; rintro e w1 ⟨rfl, hw⟩; rw [hw]; clear hw w1)
          | (go_at_call 20; refine hrd.mono ?_; rintro e w2 ⟨he, _, hB2⟩; have he' : e = .returned (.int .u8 0) := he; clear he; subst he'))
        go_ret2
        exact ⟨rfl, hB0.trans hB2⟩
      | some x =>
        obtain ⟨K, L, k'⟩ := x
        have hk := readOf_kind HAk.out.symm
        have d5 : ((K : Int) == 0) = false := by rw [beq_eq_false_iff_ne]; omega
        by_cases he : k' = s.size
        · have hr2 : valueOf s.size (some (K, L, k')) = some L := by show (if k' = s.size then some L else none) = some L; rw [if_pos he]
          have d6 : ((k' : Int) == (s.size : Int)) = true := by rw [beq_iff_eq]; omega
          rw [hr2]
          clear hr2 hk he
          go_enter Try.func13, Try.ntmps13
          go_wp2_with (first
            | (go_at_call 19; refine (hmc _).mono ?_; rintro e w1 ⟨rfl, hw⟩; rw [hw]; clear hw w1)
            | (go_at_call 20; refine hrd.mono ?_; rintro e w2 ⟨he, hN, hB2⟩; have he' : e = .returned (.int .u8 K) := he; clear he; subst he'; obtain ⟨v2, hR2⟩ := hN K L k' rfl; have e1 := hR2.c1; have e2 := hR2.c2; have hcv := conv_own hR2.own; have HB2 := Lib.hid (hB0.trans hB2); clear hN hR2 hB2))
          go_ret2
          exact ⟨rfl, HB2.out⟩
        · have hr2 : valueOf s.size (some (K, L, k')) = none := by show (if k' = s.size then some L else none) = none; rw [if_neg he]
          have d6 : ((k' : Int) == (s.size : Int)) = false := by rw [beq_eq_false_iff_ne]; omega
          rw [hr2]
          clear hr2 hk he
          go_enter Try.func13, Try.ntmps13
          go_wp2_with (first
            | (go_at_call 19; refine (hmc _).mono ?_; rintro e w1 ⟨rfl, hw⟩; rw [hw]; clear hw w1)
            | (go_at_call 20; refine hrd.mono ?_; rintro e w2 ⟨he, hN, hB2⟩; have he' : e = .returned (.int .u8 K) := he; clear he; subst he'; obtain ⟨v2, hR2⟩ := hN K L k' rfl; have e1 := hR2.c1; have HB2 := Lib.hid (hB0.trans hB2); clear hN hR2 hB2))
          go_ret2
          exact ⟨rfl, HB2.out⟩
  · have h0 : s.size = 0 := by omega
    have hr : valueP s.data.toList = none := by
      have hn : s.data.toList = [] := List.eq_nil_of_length_eq_zero (by omega)
      rw [hn]; rfl
    have hse : s = (⟨#[]⟩ : ByteArray) := by
      apply ByteArray.ext; exact Array.eq_empty_of_size_eq_zero h0
    subst hse
    rw [hr]
    clear hr
    go_enter Try.func13, Try.ntmps13
    go_wp2
    go_ret2
    exact ⟨rfl, hB0⟩
end Go.Proofs.Ytpbkdgbmnffooaa
