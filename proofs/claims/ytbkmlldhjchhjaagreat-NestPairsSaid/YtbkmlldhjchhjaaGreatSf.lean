/-
  Layer 7: contract of scan.sign.
-/
import Derived.Test.YtbkmlldhjchhjaaGreatSd
namespace Go.Proofs.YtbkmlldhjchhjaaGreat
open Go.ChangeShapes Go.WideShapes Go.ChangeAt Go.RowKit

/-- what sign answers -/
def signAns (a n : Nat) : Value := if n = 0 then .tuple #[.int .u8 0, .int .i64 0] else .tuple #[.int .u8 8, .int .i64 ((a + n : Nat) : Int)]
theorem signAt_step (t : List UInt8) (m : Nat) : signAt t (m + 1) = if isSign (t.take (m + 1)) = true then m + 1 else signAt t m := rfl
set_option maxRecDepth 100000 in
set_option maxHeartbeats 40000000 in
theorem sign_any (s : ByteArray) (hs : s.size ≤ 140737488351232) (a : Nat) (ha : a < s.size) (w : World) :
    Calls Tryz.prog 56 #[.string s, .int .i64 a] w fun e w' => e = .returned (signAns a (signLen (s.data.toList.drop a))) ∧ w' = w := by
  have hl : (s.data.toList.drop a).length = s.size - a := by rw [List.length_drop]; simp
  obtain ⟨R, hR⟩ : ∃ R, R = signLen (s.data.toList.drop a) := ⟨_, rfl⟩
  rw [← hR]
  unfold signLen at hR
  rw [hl] at hR
  have HR := Lib.hid hR.symm
  have hw0 : IntKind.i64.wrap ((s.size : Int) - (a : Int)) = (s.size : Int) - (a : Int) := by rw [IntKind.wrap_i64]; omega
  obtain ⟨M, hM⟩ : ∃ M, M = min 3 (s.size - a) := ⟨_, rfl⟩
  have hMm : min (3 : Int) ((s.size : Int) - (a : Int)) = (M : Int) := by omega
  rw [← hM] at HR
  have HM := Lib.hid (show M ≤ 3 ∧ a + M ≤ s.size by omega)
  clear hR hM
  go_enter Tryz.func56, Tryz.ntmps56
  go_wp2
  go_step3
  go_wp2
  go_step3
  go_wp2
  go_loopw [6] (fun nv wr => ∃ n : Nat, n ≤ M ∧ nv = .int .i64 n ∧ wr = w ∧ Hid (signAt (s.data.toList.drop a) n = R)) (fun nv _ => (intOf nv).toNat)
  case atStart => exact ⟨M, Nat.le_refl _, rfl, rfl, HR⟩
  case round =>
    obtain ⟨n, hn, rfl, rfl, hC⟩ := hrel
    by_cases h0 : n = 0
    · have hR0 : R = 0 := by rw [← hC.out, h0]; rfl
      have HR0 := Lib.hid (show signAns a R = .tuple #[.int .u8 0, .int .i64 0] by rw [hR0]; rfl)
      subst h0
      clear hC hR0
      go_wp2
      (first | rw [Exit.noGoto_ret] | skip)
      go_ret2
      exact ⟨by rw [HR0.out]; rfl, rfl⟩
    · obtain ⟨m, hm⟩ : ∃ m, n = m + 1 := ⟨n - 1, by omega⟩
      have hb : n ≤ 3 ∧ a + n ≤ s.size := by have := HM.out; omega
      obtain ⟨h3, h4⟩ := hb
      obtain ⟨X, hXe⟩ : ∃ X, X = s.extract a (a + n) := ⟨_, rfl⟩
      have hXl : X.toList = (s.data.toList.drop a).take n := by
        rw [hXe, extract_list, List.drop_take]; congr 1; omega
      have hsl := fun w => slice_run s a n ((a : Int) + (n : Int)) rfl h4 w
      rw [← hXe] at hsl
      have hst : R = if isSign ((s.data.toList.drop a).take n) = true then n else signAt (s.data.toList.drop a) m := by rw [← hC.out, hm, signAt_step]
      have i0 : (0 : Int) < (n : Int) := by omega
      have HNm := Lib.hid hm
      clear hm hXe hC
      cases hs2 : isSign ((s.data.toList.drop a).take n) with
      | true =>
        rw [hs2, if_pos rfl] at hst
        have HS := Lib.hid (show signAns a R = .tuple #[.int .u8 8, .int .i64 ((a : Int) + (n : Int))] by rw [hst]; unfold signAns; rw [if_neg h0]; simp)
        have q0 : ((n : Int) == 0) = false := by rw [beq_eq_false_iff_ne]; omega
        have hmem : (s.data.toList.drop a).take n ∈ signs := List.contains_iff_mem.1 hs2
        unfold signs at hmem
        simp only [List.mem_cons, List.not_mem_nil, or_false] at hmem
        clear hs2 hst
        rcases hmem with hmem | hmem | hmem | hmem | hmem | hmem | hmem | hmem | hmem | hmem | hmem | hmem | hmem | hmem | hmem | hmem | hmem | hmem | hmem | hmem | hmem | hmem | hmem | hmem | hmem | hmem | hmem | hmem | hmem | hmem | hmem | hmem | hmem | hmem | hmem | hmem | hmem | hmem | hmem | hmem | hmem | hmem | hmem | hmem | hmem | hmem | hmem
        · have hv : (s.data.toList.drop a).take n = [43] := by simpa using hmem
          rw [← hXl] at hv
          have f0 : (X.toList == [43]) = true := by rw [hv]; rfl
          have f1 : (X.toList == [45]) = false := by rw [hv]; rfl
          have f2 : (X.toList == [42]) = false := by rw [hv]; rfl
          have f3 : (X.toList == [47]) = false := by rw [hv]; rfl
          have f4 : (X.toList == [37]) = false := by rw [hv]; rfl
          have f5 : (X.toList == [38]) = false := by rw [hv]; rfl
          have f6 : (X.toList == [124]) = false := by rw [hv]; rfl
          have f7 : (X.toList == [94]) = false := by rw [hv]; rfl
          have f8 : (X.toList == [60, 60]) = false := by rw [hv]; rfl
          have f9 : (X.toList == [62, 62]) = false := by rw [hv]; rfl
          have f10 : (X.toList == [38, 94]) = false := by rw [hv]; rfl
          have f11 : (X.toList == [43, 61]) = false := by rw [hv]; rfl
          have f12 : (X.toList == [45, 61]) = false := by rw [hv]; rfl
          have f13 : (X.toList == [42, 61]) = false := by rw [hv]; rfl
          have f14 : (X.toList == [47, 61]) = false := by rw [hv]; rfl
          have f15 : (X.toList == [37, 61]) = false := by rw [hv]; rfl
          have f16 : (X.toList == [38, 61]) = false := by rw [hv]; rfl
          have f17 : (X.toList == [124, 61]) = false := by rw [hv]; rfl
          have f18 : (X.toList == [94, 61]) = false := by rw [hv]; rfl
          have f19 : (X.toList == [60, 60, 61]) = false := by rw [hv]; rfl
          have f20 : (X.toList == [62, 62, 61]) = false := by rw [hv]; rfl
          have f21 : (X.toList == [38, 94, 61]) = false := by rw [hv]; rfl
          have f22 : (X.toList == [38, 38]) = false := by rw [hv]; rfl
          have f23 : (X.toList == [124, 124]) = false := by rw [hv]; rfl
          have f24 : (X.toList == [60, 45]) = false := by rw [hv]; rfl
          have f25 : (X.toList == [43, 43]) = false := by rw [hv]; rfl
          have f26 : (X.toList == [45, 45]) = false := by rw [hv]; rfl
          have f27 : (X.toList == [61, 61]) = false := by rw [hv]; rfl
          have f28 : (X.toList == [60]) = false := by rw [hv]; rfl
          have f29 : (X.toList == [62]) = false := by rw [hv]; rfl
          have f30 : (X.toList == [61]) = false := by rw [hv]; rfl
          have f31 : (X.toList == [33]) = false := by rw [hv]; rfl
          have f32 : (X.toList == [126]) = false := by rw [hv]; rfl
          have f33 : (X.toList == [33, 61]) = false := by rw [hv]; rfl
          have f34 : (X.toList == [60, 61]) = false := by rw [hv]; rfl
          have f35 : (X.toList == [62, 61]) = false := by rw [hv]; rfl
          have f36 : (X.toList == [58, 61]) = false := by rw [hv]; rfl
          have f37 : (X.toList == [46, 46, 46]) = false := by rw [hv]; rfl
          have f38 : (X.toList == [40]) = false := by rw [hv]; rfl
          have f39 : (X.toList == [41]) = false := by rw [hv]; rfl
          have f40 : (X.toList == [91]) = false := by rw [hv]; rfl
          have f41 : (X.toList == [93]) = false := by rw [hv]; rfl
          have f42 : (X.toList == [123]) = false := by rw [hv]; rfl
          have f43 : (X.toList == [125]) = false := by rw [hv]; rfl
          have f44 : (X.toList == [44]) = false := by rw [hv]; rfl
          have f45 : (X.toList == [46]) = false := by rw [hv]; rfl
          have f46 : (X.toList == [58]) = false := by rw [hv]; rfl
          clear hXl hmem hv
          go_wp2
          rw [Exit.noGoto_ret]
          go_ret2
          exact ⟨by rw [HS.out]; rfl, rfl⟩
        · have hv : (s.data.toList.drop a).take n = [45] := by simpa using hmem
          rw [← hXl] at hv
          have f0 : (X.toList == [43]) = false := by rw [hv]; rfl
          have f1 : (X.toList == [45]) = true := by rw [hv]; rfl
          have f2 : (X.toList == [42]) = false := by rw [hv]; rfl
          have f3 : (X.toList == [47]) = false := by rw [hv]; rfl
          have f4 : (X.toList == [37]) = false := by rw [hv]; rfl
          have f5 : (X.toList == [38]) = false := by rw [hv]; rfl
          have f6 : (X.toList == [124]) = false := by rw [hv]; rfl
          have f7 : (X.toList == [94]) = false := by rw [hv]; rfl
          have f8 : (X.toList == [60, 60]) = false := by rw [hv]; rfl
          have f9 : (X.toList == [62, 62]) = false := by rw [hv]; rfl
          have f10 : (X.toList == [38, 94]) = false := by rw [hv]; rfl
          have f11 : (X.toList == [43, 61]) = false := by rw [hv]; rfl
          have f12 : (X.toList == [45, 61]) = false := by rw [hv]; rfl
          have f13 : (X.toList == [42, 61]) = false := by rw [hv]; rfl
          have f14 : (X.toList == [47, 61]) = false := by rw [hv]; rfl
          have f15 : (X.toList == [37, 61]) = false := by rw [hv]; rfl
          have f16 : (X.toList == [38, 61]) = false := by rw [hv]; rfl
          have f17 : (X.toList == [124, 61]) = false := by rw [hv]; rfl
          have f18 : (X.toList == [94, 61]) = false := by rw [hv]; rfl
          have f19 : (X.toList == [60, 60, 61]) = false := by rw [hv]; rfl
          have f20 : (X.toList == [62, 62, 61]) = false := by rw [hv]; rfl
          have f21 : (X.toList == [38, 94, 61]) = false := by rw [hv]; rfl
          have f22 : (X.toList == [38, 38]) = false := by rw [hv]; rfl
          have f23 : (X.toList == [124, 124]) = false := by rw [hv]; rfl
          have f24 : (X.toList == [60, 45]) = false := by rw [hv]; rfl
          have f25 : (X.toList == [43, 43]) = false := by rw [hv]; rfl
          have f26 : (X.toList == [45, 45]) = false := by rw [hv]; rfl
          have f27 : (X.toList == [61, 61]) = false := by rw [hv]; rfl
          have f28 : (X.toList == [60]) = false := by rw [hv]; rfl
          have f29 : (X.toList == [62]) = false := by rw [hv]; rfl
          have f30 : (X.toList == [61]) = false := by rw [hv]; rfl
          have f31 : (X.toList == [33]) = false := by rw [hv]; rfl
          have f32 : (X.toList == [126]) = false := by rw [hv]; rfl
          have f33 : (X.toList == [33, 61]) = false := by rw [hv]; rfl
          have f34 : (X.toList == [60, 61]) = false := by rw [hv]; rfl
          have f35 : (X.toList == [62, 61]) = false := by rw [hv]; rfl
          have f36 : (X.toList == [58, 61]) = false := by rw [hv]; rfl
          have f37 : (X.toList == [46, 46, 46]) = false := by rw [hv]; rfl
          have f38 : (X.toList == [40]) = false := by rw [hv]; rfl
          have f39 : (X.toList == [41]) = false := by rw [hv]; rfl
          have f40 : (X.toList == [91]) = false := by rw [hv]; rfl
          have f41 : (X.toList == [93]) = false := by rw [hv]; rfl
          have f42 : (X.toList == [123]) = false := by rw [hv]; rfl
          have f43 : (X.toList == [125]) = false := by rw [hv]; rfl
          have f44 : (X.toList == [44]) = false := by rw [hv]; rfl
          have f45 : (X.toList == [46]) = false := by rw [hv]; rfl
          have f46 : (X.toList == [58]) = false := by rw [hv]; rfl
          clear hXl hmem hv
          go_wp2
          rw [Exit.noGoto_ret]
          go_ret2
          exact ⟨by rw [HS.out]; rfl, rfl⟩
        · have hv : (s.data.toList.drop a).take n = [42] := by simpa using hmem
          rw [← hXl] at hv
          have f0 : (X.toList == [43]) = false := by rw [hv]; rfl
          have f1 : (X.toList == [45]) = false := by rw [hv]; rfl
          have f2 : (X.toList == [42]) = true := by rw [hv]; rfl
          have f3 : (X.toList == [47]) = false := by rw [hv]; rfl
          have f4 : (X.toList == [37]) = false := by rw [hv]; rfl
          have f5 : (X.toList == [38]) = false := by rw [hv]; rfl
          have f6 : (X.toList == [124]) = false := by rw [hv]; rfl
          have f7 : (X.toList == [94]) = false := by rw [hv]; rfl
          have f8 : (X.toList == [60, 60]) = false := by rw [hv]; rfl
          have f9 : (X.toList == [62, 62]) = false := by rw [hv]; rfl
          have f10 : (X.toList == [38, 94]) = false := by rw [hv]; rfl
          have f11 : (X.toList == [43, 61]) = false := by rw [hv]; rfl
          have f12 : (X.toList == [45, 61]) = false := by rw [hv]; rfl
          have f13 : (X.toList == [42, 61]) = false := by rw [hv]; rfl
          have f14 : (X.toList == [47, 61]) = false := by rw [hv]; rfl
          have f15 : (X.toList == [37, 61]) = false := by rw [hv]; rfl
          have f16 : (X.toList == [38, 61]) = false := by rw [hv]; rfl
          have f17 : (X.toList == [124, 61]) = false := by rw [hv]; rfl
          have f18 : (X.toList == [94, 61]) = false := by rw [hv]; rfl
          have f19 : (X.toList == [60, 60, 61]) = false := by rw [hv]; rfl
          have f20 : (X.toList == [62, 62, 61]) = false := by rw [hv]; rfl
          have f21 : (X.toList == [38, 94, 61]) = false := by rw [hv]; rfl
          have f22 : (X.toList == [38, 38]) = false := by rw [hv]; rfl
          have f23 : (X.toList == [124, 124]) = false := by rw [hv]; rfl
          have f24 : (X.toList == [60, 45]) = false := by rw [hv]; rfl
          have f25 : (X.toList == [43, 43]) = false := by rw [hv]; rfl
          have f26 : (X.toList == [45, 45]) = false := by rw [hv]; rfl
          have f27 : (X.toList == [61, 61]) = false := by rw [hv]; rfl
          have f28 : (X.toList == [60]) = false := by rw [hv]; rfl
          have f29 : (X.toList == [62]) = false := by rw [hv]; rfl
          have f30 : (X.toList == [61]) = false := by rw [hv]; rfl
          have f31 : (X.toList == [33]) = false := by rw [hv]; rfl
          have f32 : (X.toList == [126]) = false := by rw [hv]; rfl
          have f33 : (X.toList == [33, 61]) = false := by rw [hv]; rfl
          have f34 : (X.toList == [60, 61]) = false := by rw [hv]; rfl
          have f35 : (X.toList == [62, 61]) = false := by rw [hv]; rfl
          have f36 : (X.toList == [58, 61]) = false := by rw [hv]; rfl
          have f37 : (X.toList == [46, 46, 46]) = false := by rw [hv]; rfl
          have f38 : (X.toList == [40]) = false := by rw [hv]; rfl
          have f39 : (X.toList == [41]) = false := by rw [hv]; rfl
          have f40 : (X.toList == [91]) = false := by rw [hv]; rfl
          have f41 : (X.toList == [93]) = false := by rw [hv]; rfl
          have f42 : (X.toList == [123]) = false := by rw [hv]; rfl
          have f43 : (X.toList == [125]) = false := by rw [hv]; rfl
          have f44 : (X.toList == [44]) = false := by rw [hv]; rfl
          have f45 : (X.toList == [46]) = false := by rw [hv]; rfl
          have f46 : (X.toList == [58]) = false := by rw [hv]; rfl
          clear hXl hmem hv
          go_wp2
          rw [Exit.noGoto_ret]
          go_ret2
          exact ⟨by rw [HS.out]; rfl, rfl⟩
        · have hv : (s.data.toList.drop a).take n = [47] := by simpa using hmem
          rw [← hXl] at hv
          have f0 : (X.toList == [43]) = false := by rw [hv]; rfl
          have f1 : (X.toList == [45]) = false := by rw [hv]; rfl
          have f2 : (X.toList == [42]) = false := by rw [hv]; rfl
          have f3 : (X.toList == [47]) = true := by rw [hv]; rfl
          have f4 : (X.toList == [37]) = false := by rw [hv]; rfl
          have f5 : (X.toList == [38]) = false := by rw [hv]; rfl
          have f6 : (X.toList == [124]) = false := by rw [hv]; rfl
          have f7 : (X.toList == [94]) = false := by rw [hv]; rfl
          have f8 : (X.toList == [60, 60]) = false := by rw [hv]; rfl
          have f9 : (X.toList == [62, 62]) = false := by rw [hv]; rfl
          have f10 : (X.toList == [38, 94]) = false := by rw [hv]; rfl
          have f11 : (X.toList == [43, 61]) = false := by rw [hv]; rfl
          have f12 : (X.toList == [45, 61]) = false := by rw [hv]; rfl
          have f13 : (X.toList == [42, 61]) = false := by rw [hv]; rfl
          have f14 : (X.toList == [47, 61]) = false := by rw [hv]; rfl
          have f15 : (X.toList == [37, 61]) = false := by rw [hv]; rfl
          have f16 : (X.toList == [38, 61]) = false := by rw [hv]; rfl
          have f17 : (X.toList == [124, 61]) = false := by rw [hv]; rfl
          have f18 : (X.toList == [94, 61]) = false := by rw [hv]; rfl
          have f19 : (X.toList == [60, 60, 61]) = false := by rw [hv]; rfl
          have f20 : (X.toList == [62, 62, 61]) = false := by rw [hv]; rfl
          have f21 : (X.toList == [38, 94, 61]) = false := by rw [hv]; rfl
          have f22 : (X.toList == [38, 38]) = false := by rw [hv]; rfl
          have f23 : (X.toList == [124, 124]) = false := by rw [hv]; rfl
          have f24 : (X.toList == [60, 45]) = false := by rw [hv]; rfl
          have f25 : (X.toList == [43, 43]) = false := by rw [hv]; rfl
          have f26 : (X.toList == [45, 45]) = false := by rw [hv]; rfl
          have f27 : (X.toList == [61, 61]) = false := by rw [hv]; rfl
          have f28 : (X.toList == [60]) = false := by rw [hv]; rfl
          have f29 : (X.toList == [62]) = false := by rw [hv]; rfl
          have f30 : (X.toList == [61]) = false := by rw [hv]; rfl
          have f31 : (X.toList == [33]) = false := by rw [hv]; rfl
          have f32 : (X.toList == [126]) = false := by rw [hv]; rfl
          have f33 : (X.toList == [33, 61]) = false := by rw [hv]; rfl
          have f34 : (X.toList == [60, 61]) = false := by rw [hv]; rfl
          have f35 : (X.toList == [62, 61]) = false := by rw [hv]; rfl
          have f36 : (X.toList == [58, 61]) = false := by rw [hv]; rfl
          have f37 : (X.toList == [46, 46, 46]) = false := by rw [hv]; rfl
          have f38 : (X.toList == [40]) = false := by rw [hv]; rfl
          have f39 : (X.toList == [41]) = false := by rw [hv]; rfl
          have f40 : (X.toList == [91]) = false := by rw [hv]; rfl
          have f41 : (X.toList == [93]) = false := by rw [hv]; rfl
          have f42 : (X.toList == [123]) = false := by rw [hv]; rfl
          have f43 : (X.toList == [125]) = false := by rw [hv]; rfl
          have f44 : (X.toList == [44]) = false := by rw [hv]; rfl
          have f45 : (X.toList == [46]) = false := by rw [hv]; rfl
          have f46 : (X.toList == [58]) = false := by rw [hv]; rfl
          clear hXl hmem hv
          go_wp2
          rw [Exit.noGoto_ret]
          go_ret2
          exact ⟨by rw [HS.out]; rfl, rfl⟩
        · have hv : (s.data.toList.drop a).take n = [37] := by simpa using hmem
          rw [← hXl] at hv
          have f0 : (X.toList == [43]) = false := by rw [hv]; rfl
          have f1 : (X.toList == [45]) = false := by rw [hv]; rfl
          have f2 : (X.toList == [42]) = false := by rw [hv]; rfl
          have f3 : (X.toList == [47]) = false := by rw [hv]; rfl
          have f4 : (X.toList == [37]) = true := by rw [hv]; rfl
          have f5 : (X.toList == [38]) = false := by rw [hv]; rfl
          have f6 : (X.toList == [124]) = false := by rw [hv]; rfl
          have f7 : (X.toList == [94]) = false := by rw [hv]; rfl
          have f8 : (X.toList == [60, 60]) = false := by rw [hv]; rfl
          have f9 : (X.toList == [62, 62]) = false := by rw [hv]; rfl
          have f10 : (X.toList == [38, 94]) = false := by rw [hv]; rfl
          have f11 : (X.toList == [43, 61]) = false := by rw [hv]; rfl
          have f12 : (X.toList == [45, 61]) = false := by rw [hv]; rfl
          have f13 : (X.toList == [42, 61]) = false := by rw [hv]; rfl
          have f14 : (X.toList == [47, 61]) = false := by rw [hv]; rfl
          have f15 : (X.toList == [37, 61]) = false := by rw [hv]; rfl
          have f16 : (X.toList == [38, 61]) = false := by rw [hv]; rfl
          have f17 : (X.toList == [124, 61]) = false := by rw [hv]; rfl
          have f18 : (X.toList == [94, 61]) = false := by rw [hv]; rfl
          have f19 : (X.toList == [60, 60, 61]) = false := by rw [hv]; rfl
          have f20 : (X.toList == [62, 62, 61]) = false := by rw [hv]; rfl
          have f21 : (X.toList == [38, 94, 61]) = false := by rw [hv]; rfl
          have f22 : (X.toList == [38, 38]) = false := by rw [hv]; rfl
          have f23 : (X.toList == [124, 124]) = false := by rw [hv]; rfl
          have f24 : (X.toList == [60, 45]) = false := by rw [hv]; rfl
          have f25 : (X.toList == [43, 43]) = false := by rw [hv]; rfl
          have f26 : (X.toList == [45, 45]) = false := by rw [hv]; rfl
          have f27 : (X.toList == [61, 61]) = false := by rw [hv]; rfl
          have f28 : (X.toList == [60]) = false := by rw [hv]; rfl
          have f29 : (X.toList == [62]) = false := by rw [hv]; rfl
          have f30 : (X.toList == [61]) = false := by rw [hv]; rfl
          have f31 : (X.toList == [33]) = false := by rw [hv]; rfl
          have f32 : (X.toList == [126]) = false := by rw [hv]; rfl
          have f33 : (X.toList == [33, 61]) = false := by rw [hv]; rfl
          have f34 : (X.toList == [60, 61]) = false := by rw [hv]; rfl
          have f35 : (X.toList == [62, 61]) = false := by rw [hv]; rfl
          have f36 : (X.toList == [58, 61]) = false := by rw [hv]; rfl
          have f37 : (X.toList == [46, 46, 46]) = false := by rw [hv]; rfl
          have f38 : (X.toList == [40]) = false := by rw [hv]; rfl
          have f39 : (X.toList == [41]) = false := by rw [hv]; rfl
          have f40 : (X.toList == [91]) = false := by rw [hv]; rfl
          have f41 : (X.toList == [93]) = false := by rw [hv]; rfl
          have f42 : (X.toList == [123]) = false := by rw [hv]; rfl
          have f43 : (X.toList == [125]) = false := by rw [hv]; rfl
          have f44 : (X.toList == [44]) = false := by rw [hv]; rfl
          have f45 : (X.toList == [46]) = false := by rw [hv]; rfl
          have f46 : (X.toList == [58]) = false := by rw [hv]; rfl
          clear hXl hmem hv
          go_wp2
          rw [Exit.noGoto_ret]
          go_ret2
          exact ⟨by rw [HS.out]; rfl, rfl⟩
        · have hv : (s.data.toList.drop a).take n = [38] := by simpa using hmem
          rw [← hXl] at hv
          have f0 : (X.toList == [43]) = false := by rw [hv]; rfl
          have f1 : (X.toList == [45]) = false := by rw [hv]; rfl
          have f2 : (X.toList == [42]) = false := by rw [hv]; rfl
          have f3 : (X.toList == [47]) = false := by rw [hv]; rfl
          have f4 : (X.toList == [37]) = false := by rw [hv]; rfl
          have f5 : (X.toList == [38]) = true := by rw [hv]; rfl
          have f6 : (X.toList == [124]) = false := by rw [hv]; rfl
          have f7 : (X.toList == [94]) = false := by rw [hv]; rfl
          have f8 : (X.toList == [60, 60]) = false := by rw [hv]; rfl
          have f9 : (X.toList == [62, 62]) = false := by rw [hv]; rfl
          have f10 : (X.toList == [38, 94]) = false := by rw [hv]; rfl
          have f11 : (X.toList == [43, 61]) = false := by rw [hv]; rfl
          have f12 : (X.toList == [45, 61]) = false := by rw [hv]; rfl
          have f13 : (X.toList == [42, 61]) = false := by rw [hv]; rfl
          have f14 : (X.toList == [47, 61]) = false := by rw [hv]; rfl
          have f15 : (X.toList == [37, 61]) = false := by rw [hv]; rfl
          have f16 : (X.toList == [38, 61]) = false := by rw [hv]; rfl
          have f17 : (X.toList == [124, 61]) = false := by rw [hv]; rfl
          have f18 : (X.toList == [94, 61]) = false := by rw [hv]; rfl
          have f19 : (X.toList == [60, 60, 61]) = false := by rw [hv]; rfl
          have f20 : (X.toList == [62, 62, 61]) = false := by rw [hv]; rfl
          have f21 : (X.toList == [38, 94, 61]) = false := by rw [hv]; rfl
          have f22 : (X.toList == [38, 38]) = false := by rw [hv]; rfl
          have f23 : (X.toList == [124, 124]) = false := by rw [hv]; rfl
          have f24 : (X.toList == [60, 45]) = false := by rw [hv]; rfl
          have f25 : (X.toList == [43, 43]) = false := by rw [hv]; rfl
          have f26 : (X.toList == [45, 45]) = false := by rw [hv]; rfl
          have f27 : (X.toList == [61, 61]) = false := by rw [hv]; rfl
          have f28 : (X.toList == [60]) = false := by rw [hv]; rfl
          have f29 : (X.toList == [62]) = false := by rw [hv]; rfl
          have f30 : (X.toList == [61]) = false := by rw [hv]; rfl
          have f31 : (X.toList == [33]) = false := by rw [hv]; rfl
          have f32 : (X.toList == [126]) = false := by rw [hv]; rfl
          have f33 : (X.toList == [33, 61]) = false := by rw [hv]; rfl
          have f34 : (X.toList == [60, 61]) = false := by rw [hv]; rfl
          have f35 : (X.toList == [62, 61]) = false := by rw [hv]; rfl
          have f36 : (X.toList == [58, 61]) = false := by rw [hv]; rfl
          have f37 : (X.toList == [46, 46, 46]) = false := by rw [hv]; rfl
          have f38 : (X.toList == [40]) = false := by rw [hv]; rfl
          have f39 : (X.toList == [41]) = false := by rw [hv]; rfl
          have f40 : (X.toList == [91]) = false := by rw [hv]; rfl
          have f41 : (X.toList == [93]) = false := by rw [hv]; rfl
          have f42 : (X.toList == [123]) = false := by rw [hv]; rfl
          have f43 : (X.toList == [125]) = false := by rw [hv]; rfl
          have f44 : (X.toList == [44]) = false := by rw [hv]; rfl
          have f45 : (X.toList == [46]) = false := by rw [hv]; rfl
          have f46 : (X.toList == [58]) = false := by rw [hv]; rfl
          clear hXl hmem hv
          go_wp2
          rw [Exit.noGoto_ret]
          go_ret2
          exact ⟨by rw [HS.out]; rfl, rfl⟩
        · have hv : (s.data.toList.drop a).take n = [124] := by simpa using hmem
          rw [← hXl] at hv
          have f0 : (X.toList == [43]) = false := by rw [hv]; rfl
          have f1 : (X.toList == [45]) = false := by rw [hv]; rfl
          have f2 : (X.toList == [42]) = false := by rw [hv]; rfl
          have f3 : (X.toList == [47]) = false := by rw [hv]; rfl
          have f4 : (X.toList == [37]) = false := by rw [hv]; rfl
          have f5 : (X.toList == [38]) = false := by rw [hv]; rfl
          have f6 : (X.toList == [124]) = true := by rw [hv]; rfl
          have f7 : (X.toList == [94]) = false := by rw [hv]; rfl
          have f8 : (X.toList == [60, 60]) = false := by rw [hv]; rfl
          have f9 : (X.toList == [62, 62]) = false := by rw [hv]; rfl
          have f10 : (X.toList == [38, 94]) = false := by rw [hv]; rfl
          have f11 : (X.toList == [43, 61]) = false := by rw [hv]; rfl
          have f12 : (X.toList == [45, 61]) = false := by rw [hv]; rfl
          have f13 : (X.toList == [42, 61]) = false := by rw [hv]; rfl
          have f14 : (X.toList == [47, 61]) = false := by rw [hv]; rfl
          have f15 : (X.toList == [37, 61]) = false := by rw [hv]; rfl
          have f16 : (X.toList == [38, 61]) = false := by rw [hv]; rfl
          have f17 : (X.toList == [124, 61]) = false := by rw [hv]; rfl
          have f18 : (X.toList == [94, 61]) = false := by rw [hv]; rfl
          have f19 : (X.toList == [60, 60, 61]) = false := by rw [hv]; rfl
          have f20 : (X.toList == [62, 62, 61]) = false := by rw [hv]; rfl
          have f21 : (X.toList == [38, 94, 61]) = false := by rw [hv]; rfl
          have f22 : (X.toList == [38, 38]) = false := by rw [hv]; rfl
          have f23 : (X.toList == [124, 124]) = false := by rw [hv]; rfl
          have f24 : (X.toList == [60, 45]) = false := by rw [hv]; rfl
          have f25 : (X.toList == [43, 43]) = false := by rw [hv]; rfl
          have f26 : (X.toList == [45, 45]) = false := by rw [hv]; rfl
          have f27 : (X.toList == [61, 61]) = false := by rw [hv]; rfl
          have f28 : (X.toList == [60]) = false := by rw [hv]; rfl
          have f29 : (X.toList == [62]) = false := by rw [hv]; rfl
          have f30 : (X.toList == [61]) = false := by rw [hv]; rfl
          have f31 : (X.toList == [33]) = false := by rw [hv]; rfl
          have f32 : (X.toList == [126]) = false := by rw [hv]; rfl
          have f33 : (X.toList == [33, 61]) = false := by rw [hv]; rfl
          have f34 : (X.toList == [60, 61]) = false := by rw [hv]; rfl
          have f35 : (X.toList == [62, 61]) = false := by rw [hv]; rfl
          have f36 : (X.toList == [58, 61]) = false := by rw [hv]; rfl
          have f37 : (X.toList == [46, 46, 46]) = false := by rw [hv]; rfl
          have f38 : (X.toList == [40]) = false := by rw [hv]; rfl
          have f39 : (X.toList == [41]) = false := by rw [hv]; rfl
          have f40 : (X.toList == [91]) = false := by rw [hv]; rfl
          have f41 : (X.toList == [93]) = false := by rw [hv]; rfl
          have f42 : (X.toList == [123]) = false := by rw [hv]; rfl
          have f43 : (X.toList == [125]) = false := by rw [hv]; rfl
          have f44 : (X.toList == [44]) = false := by rw [hv]; rfl
          have f45 : (X.toList == [46]) = false := by rw [hv]; rfl
          have f46 : (X.toList == [58]) = false := by rw [hv]; rfl
          clear hXl hmem hv
          go_wp2
          rw [Exit.noGoto_ret]
          go_ret2
          exact ⟨by rw [HS.out]; rfl, rfl⟩
        · have hv : (s.data.toList.drop a).take n = [94] := by simpa using hmem
          rw [← hXl] at hv
          have f0 : (X.toList == [43]) = false := by rw [hv]; rfl
          have f1 : (X.toList == [45]) = false := by rw [hv]; rfl
          have f2 : (X.toList == [42]) = false := by rw [hv]; rfl
          have f3 : (X.toList == [47]) = false := by rw [hv]; rfl
          have f4 : (X.toList == [37]) = false := by rw [hv]; rfl
          have f5 : (X.toList == [38]) = false := by rw [hv]; rfl
          have f6 : (X.toList == [124]) = false := by rw [hv]; rfl
          have f7 : (X.toList == [94]) = true := by rw [hv]; rfl
          have f8 : (X.toList == [60, 60]) = false := by rw [hv]; rfl
          have f9 : (X.toList == [62, 62]) = false := by rw [hv]; rfl
          have f10 : (X.toList == [38, 94]) = false := by rw [hv]; rfl
          have f11 : (X.toList == [43, 61]) = false := by rw [hv]; rfl
          have f12 : (X.toList == [45, 61]) = false := by rw [hv]; rfl
          have f13 : (X.toList == [42, 61]) = false := by rw [hv]; rfl
          have f14 : (X.toList == [47, 61]) = false := by rw [hv]; rfl
          have f15 : (X.toList == [37, 61]) = false := by rw [hv]; rfl
          have f16 : (X.toList == [38, 61]) = false := by rw [hv]; rfl
          have f17 : (X.toList == [124, 61]) = false := by rw [hv]; rfl
          have f18 : (X.toList == [94, 61]) = false := by rw [hv]; rfl
          have f19 : (X.toList == [60, 60, 61]) = false := by rw [hv]; rfl
          have f20 : (X.toList == [62, 62, 61]) = false := by rw [hv]; rfl
          have f21 : (X.toList == [38, 94, 61]) = false := by rw [hv]; rfl
          have f22 : (X.toList == [38, 38]) = false := by rw [hv]; rfl
          have f23 : (X.toList == [124, 124]) = false := by rw [hv]; rfl
          have f24 : (X.toList == [60, 45]) = false := by rw [hv]; rfl
          have f25 : (X.toList == [43, 43]) = false := by rw [hv]; rfl
          have f26 : (X.toList == [45, 45]) = false := by rw [hv]; rfl
          have f27 : (X.toList == [61, 61]) = false := by rw [hv]; rfl
          have f28 : (X.toList == [60]) = false := by rw [hv]; rfl
          have f29 : (X.toList == [62]) = false := by rw [hv]; rfl
          have f30 : (X.toList == [61]) = false := by rw [hv]; rfl
          have f31 : (X.toList == [33]) = false := by rw [hv]; rfl
          have f32 : (X.toList == [126]) = false := by rw [hv]; rfl
          have f33 : (X.toList == [33, 61]) = false := by rw [hv]; rfl
          have f34 : (X.toList == [60, 61]) = false := by rw [hv]; rfl
          have f35 : (X.toList == [62, 61]) = false := by rw [hv]; rfl
          have f36 : (X.toList == [58, 61]) = false := by rw [hv]; rfl
          have f37 : (X.toList == [46, 46, 46]) = false := by rw [hv]; rfl
          have f38 : (X.toList == [40]) = false := by rw [hv]; rfl
          have f39 : (X.toList == [41]) = false := by rw [hv]; rfl
          have f40 : (X.toList == [91]) = false := by rw [hv]; rfl
          have f41 : (X.toList == [93]) = false := by rw [hv]; rfl
          have f42 : (X.toList == [123]) = false := by rw [hv]; rfl
          have f43 : (X.toList == [125]) = false := by rw [hv]; rfl
          have f44 : (X.toList == [44]) = false := by rw [hv]; rfl
          have f45 : (X.toList == [46]) = false := by rw [hv]; rfl
          have f46 : (X.toList == [58]) = false := by rw [hv]; rfl
          clear hXl hmem hv
          go_wp2
          rw [Exit.noGoto_ret]
          go_ret2
          exact ⟨by rw [HS.out]; rfl, rfl⟩
        · have hv : (s.data.toList.drop a).take n = [60, 60] := by simpa using hmem
          rw [← hXl] at hv
          have f0 : (X.toList == [43]) = false := by rw [hv]; rfl
          have f1 : (X.toList == [45]) = false := by rw [hv]; rfl
          have f2 : (X.toList == [42]) = false := by rw [hv]; rfl
          have f3 : (X.toList == [47]) = false := by rw [hv]; rfl
          have f4 : (X.toList == [37]) = false := by rw [hv]; rfl
          have f5 : (X.toList == [38]) = false := by rw [hv]; rfl
          have f6 : (X.toList == [124]) = false := by rw [hv]; rfl
          have f7 : (X.toList == [94]) = false := by rw [hv]; rfl
          have f8 : (X.toList == [60, 60]) = true := by rw [hv]; rfl
          have f9 : (X.toList == [62, 62]) = false := by rw [hv]; rfl
          have f10 : (X.toList == [38, 94]) = false := by rw [hv]; rfl
          have f11 : (X.toList == [43, 61]) = false := by rw [hv]; rfl
          have f12 : (X.toList == [45, 61]) = false := by rw [hv]; rfl
          have f13 : (X.toList == [42, 61]) = false := by rw [hv]; rfl
          have f14 : (X.toList == [47, 61]) = false := by rw [hv]; rfl
          have f15 : (X.toList == [37, 61]) = false := by rw [hv]; rfl
          have f16 : (X.toList == [38, 61]) = false := by rw [hv]; rfl
          have f17 : (X.toList == [124, 61]) = false := by rw [hv]; rfl
          have f18 : (X.toList == [94, 61]) = false := by rw [hv]; rfl
          have f19 : (X.toList == [60, 60, 61]) = false := by rw [hv]; rfl
          have f20 : (X.toList == [62, 62, 61]) = false := by rw [hv]; rfl
          have f21 : (X.toList == [38, 94, 61]) = false := by rw [hv]; rfl
          have f22 : (X.toList == [38, 38]) = false := by rw [hv]; rfl
          have f23 : (X.toList == [124, 124]) = false := by rw [hv]; rfl
          have f24 : (X.toList == [60, 45]) = false := by rw [hv]; rfl
          have f25 : (X.toList == [43, 43]) = false := by rw [hv]; rfl
          have f26 : (X.toList == [45, 45]) = false := by rw [hv]; rfl
          have f27 : (X.toList == [61, 61]) = false := by rw [hv]; rfl
          have f28 : (X.toList == [60]) = false := by rw [hv]; rfl
          have f29 : (X.toList == [62]) = false := by rw [hv]; rfl
          have f30 : (X.toList == [61]) = false := by rw [hv]; rfl
          have f31 : (X.toList == [33]) = false := by rw [hv]; rfl
          have f32 : (X.toList == [126]) = false := by rw [hv]; rfl
          have f33 : (X.toList == [33, 61]) = false := by rw [hv]; rfl
          have f34 : (X.toList == [60, 61]) = false := by rw [hv]; rfl
          have f35 : (X.toList == [62, 61]) = false := by rw [hv]; rfl
          have f36 : (X.toList == [58, 61]) = false := by rw [hv]; rfl
          have f37 : (X.toList == [46, 46, 46]) = false := by rw [hv]; rfl
          have f38 : (X.toList == [40]) = false := by rw [hv]; rfl
          have f39 : (X.toList == [41]) = false := by rw [hv]; rfl
          have f40 : (X.toList == [91]) = false := by rw [hv]; rfl
          have f41 : (X.toList == [93]) = false := by rw [hv]; rfl
          have f42 : (X.toList == [123]) = false := by rw [hv]; rfl
          have f43 : (X.toList == [125]) = false := by rw [hv]; rfl
          have f44 : (X.toList == [44]) = false := by rw [hv]; rfl
          have f45 : (X.toList == [46]) = false := by rw [hv]; rfl
          have f46 : (X.toList == [58]) = false := by rw [hv]; rfl
          clear hXl hmem hv
          go_wp2
          rw [Exit.noGoto_ret]
          go_ret2
          exact ⟨by rw [HS.out]; rfl, rfl⟩
        · have hv : (s.data.toList.drop a).take n = [62, 62] := by simpa using hmem
          rw [← hXl] at hv
          have f0 : (X.toList == [43]) = false := by rw [hv]; rfl
          have f1 : (X.toList == [45]) = false := by rw [hv]; rfl
          have f2 : (X.toList == [42]) = false := by rw [hv]; rfl
          have f3 : (X.toList == [47]) = false := by rw [hv]; rfl
          have f4 : (X.toList == [37]) = false := by rw [hv]; rfl
          have f5 : (X.toList == [38]) = false := by rw [hv]; rfl
          have f6 : (X.toList == [124]) = false := by rw [hv]; rfl
          have f7 : (X.toList == [94]) = false := by rw [hv]; rfl
          have f8 : (X.toList == [60, 60]) = false := by rw [hv]; rfl
          have f9 : (X.toList == [62, 62]) = true := by rw [hv]; rfl
          have f10 : (X.toList == [38, 94]) = false := by rw [hv]; rfl
          have f11 : (X.toList == [43, 61]) = false := by rw [hv]; rfl
          have f12 : (X.toList == [45, 61]) = false := by rw [hv]; rfl
          have f13 : (X.toList == [42, 61]) = false := by rw [hv]; rfl
          have f14 : (X.toList == [47, 61]) = false := by rw [hv]; rfl
          have f15 : (X.toList == [37, 61]) = false := by rw [hv]; rfl
          have f16 : (X.toList == [38, 61]) = false := by rw [hv]; rfl
          have f17 : (X.toList == [124, 61]) = false := by rw [hv]; rfl
          have f18 : (X.toList == [94, 61]) = false := by rw [hv]; rfl
          have f19 : (X.toList == [60, 60, 61]) = false := by rw [hv]; rfl
          have f20 : (X.toList == [62, 62, 61]) = false := by rw [hv]; rfl
          have f21 : (X.toList == [38, 94, 61]) = false := by rw [hv]; rfl
          have f22 : (X.toList == [38, 38]) = false := by rw [hv]; rfl
          have f23 : (X.toList == [124, 124]) = false := by rw [hv]; rfl
          have f24 : (X.toList == [60, 45]) = false := by rw [hv]; rfl
          have f25 : (X.toList == [43, 43]) = false := by rw [hv]; rfl
          have f26 : (X.toList == [45, 45]) = false := by rw [hv]; rfl
          have f27 : (X.toList == [61, 61]) = false := by rw [hv]; rfl
          have f28 : (X.toList == [60]) = false := by rw [hv]; rfl
          have f29 : (X.toList == [62]) = false := by rw [hv]; rfl
          have f30 : (X.toList == [61]) = false := by rw [hv]; rfl
          have f31 : (X.toList == [33]) = false := by rw [hv]; rfl
          have f32 : (X.toList == [126]) = false := by rw [hv]; rfl
          have f33 : (X.toList == [33, 61]) = false := by rw [hv]; rfl
          have f34 : (X.toList == [60, 61]) = false := by rw [hv]; rfl
          have f35 : (X.toList == [62, 61]) = false := by rw [hv]; rfl
          have f36 : (X.toList == [58, 61]) = false := by rw [hv]; rfl
          have f37 : (X.toList == [46, 46, 46]) = false := by rw [hv]; rfl
          have f38 : (X.toList == [40]) = false := by rw [hv]; rfl
          have f39 : (X.toList == [41]) = false := by rw [hv]; rfl
          have f40 : (X.toList == [91]) = false := by rw [hv]; rfl
          have f41 : (X.toList == [93]) = false := by rw [hv]; rfl
          have f42 : (X.toList == [123]) = false := by rw [hv]; rfl
          have f43 : (X.toList == [125]) = false := by rw [hv]; rfl
          have f44 : (X.toList == [44]) = false := by rw [hv]; rfl
          have f45 : (X.toList == [46]) = false := by rw [hv]; rfl
          have f46 : (X.toList == [58]) = false := by rw [hv]; rfl
          clear hXl hmem hv
          go_wp2
          rw [Exit.noGoto_ret]
          go_ret2
          exact ⟨by rw [HS.out]; rfl, rfl⟩
        · have hv : (s.data.toList.drop a).take n = [38, 94] := by simpa using hmem
          rw [← hXl] at hv
          have f0 : (X.toList == [43]) = false := by rw [hv]; rfl
          have f1 : (X.toList == [45]) = false := by rw [hv]; rfl
          have f2 : (X.toList == [42]) = false := by rw [hv]; rfl
          have f3 : (X.toList == [47]) = false := by rw [hv]; rfl
          have f4 : (X.toList == [37]) = false := by rw [hv]; rfl
          have f5 : (X.toList == [38]) = false := by rw [hv]; rfl
          have f6 : (X.toList == [124]) = false := by rw [hv]; rfl
          have f7 : (X.toList == [94]) = false := by rw [hv]; rfl
          have f8 : (X.toList == [60, 60]) = false := by rw [hv]; rfl
          have f9 : (X.toList == [62, 62]) = false := by rw [hv]; rfl
          have f10 : (X.toList == [38, 94]) = true := by rw [hv]; rfl
          have f11 : (X.toList == [43, 61]) = false := by rw [hv]; rfl
          have f12 : (X.toList == [45, 61]) = false := by rw [hv]; rfl
          have f13 : (X.toList == [42, 61]) = false := by rw [hv]; rfl
          have f14 : (X.toList == [47, 61]) = false := by rw [hv]; rfl
          have f15 : (X.toList == [37, 61]) = false := by rw [hv]; rfl
          have f16 : (X.toList == [38, 61]) = false := by rw [hv]; rfl
          have f17 : (X.toList == [124, 61]) = false := by rw [hv]; rfl
          have f18 : (X.toList == [94, 61]) = false := by rw [hv]; rfl
          have f19 : (X.toList == [60, 60, 61]) = false := by rw [hv]; rfl
          have f20 : (X.toList == [62, 62, 61]) = false := by rw [hv]; rfl
          have f21 : (X.toList == [38, 94, 61]) = false := by rw [hv]; rfl
          have f22 : (X.toList == [38, 38]) = false := by rw [hv]; rfl
          have f23 : (X.toList == [124, 124]) = false := by rw [hv]; rfl
          have f24 : (X.toList == [60, 45]) = false := by rw [hv]; rfl
          have f25 : (X.toList == [43, 43]) = false := by rw [hv]; rfl
          have f26 : (X.toList == [45, 45]) = false := by rw [hv]; rfl
          have f27 : (X.toList == [61, 61]) = false := by rw [hv]; rfl
          have f28 : (X.toList == [60]) = false := by rw [hv]; rfl
          have f29 : (X.toList == [62]) = false := by rw [hv]; rfl
          have f30 : (X.toList == [61]) = false := by rw [hv]; rfl
          have f31 : (X.toList == [33]) = false := by rw [hv]; rfl
          have f32 : (X.toList == [126]) = false := by rw [hv]; rfl
          have f33 : (X.toList == [33, 61]) = false := by rw [hv]; rfl
          have f34 : (X.toList == [60, 61]) = false := by rw [hv]; rfl
          have f35 : (X.toList == [62, 61]) = false := by rw [hv]; rfl
          have f36 : (X.toList == [58, 61]) = false := by rw [hv]; rfl
          have f37 : (X.toList == [46, 46, 46]) = false := by rw [hv]; rfl
          have f38 : (X.toList == [40]) = false := by rw [hv]; rfl
          have f39 : (X.toList == [41]) = false := by rw [hv]; rfl
          have f40 : (X.toList == [91]) = false := by rw [hv]; rfl
          have f41 : (X.toList == [93]) = false := by rw [hv]; rfl
          have f42 : (X.toList == [123]) = false := by rw [hv]; rfl
          have f43 : (X.toList == [125]) = false := by rw [hv]; rfl
          have f44 : (X.toList == [44]) = false := by rw [hv]; rfl
          have f45 : (X.toList == [46]) = false := by rw [hv]; rfl
          have f46 : (X.toList == [58]) = false := by rw [hv]; rfl
          clear hXl hmem hv
          go_wp2
          rw [Exit.noGoto_ret]
          go_ret2
          exact ⟨by rw [HS.out]; rfl, rfl⟩
        · have hv : (s.data.toList.drop a).take n = [43, 61] := by simpa using hmem
          rw [← hXl] at hv
          have f0 : (X.toList == [43]) = false := by rw [hv]; rfl
          have f1 : (X.toList == [45]) = false := by rw [hv]; rfl
          have f2 : (X.toList == [42]) = false := by rw [hv]; rfl
          have f3 : (X.toList == [47]) = false := by rw [hv]; rfl
          have f4 : (X.toList == [37]) = false := by rw [hv]; rfl
          have f5 : (X.toList == [38]) = false := by rw [hv]; rfl
          have f6 : (X.toList == [124]) = false := by rw [hv]; rfl
          have f7 : (X.toList == [94]) = false := by rw [hv]; rfl
          have f8 : (X.toList == [60, 60]) = false := by rw [hv]; rfl
          have f9 : (X.toList == [62, 62]) = false := by rw [hv]; rfl
          have f10 : (X.toList == [38, 94]) = false := by rw [hv]; rfl
          have f11 : (X.toList == [43, 61]) = true := by rw [hv]; rfl
          have f12 : (X.toList == [45, 61]) = false := by rw [hv]; rfl
          have f13 : (X.toList == [42, 61]) = false := by rw [hv]; rfl
          have f14 : (X.toList == [47, 61]) = false := by rw [hv]; rfl
          have f15 : (X.toList == [37, 61]) = false := by rw [hv]; rfl
          have f16 : (X.toList == [38, 61]) = false := by rw [hv]; rfl
          have f17 : (X.toList == [124, 61]) = false := by rw [hv]; rfl
          have f18 : (X.toList == [94, 61]) = false := by rw [hv]; rfl
          have f19 : (X.toList == [60, 60, 61]) = false := by rw [hv]; rfl
          have f20 : (X.toList == [62, 62, 61]) = false := by rw [hv]; rfl
          have f21 : (X.toList == [38, 94, 61]) = false := by rw [hv]; rfl
          have f22 : (X.toList == [38, 38]) = false := by rw [hv]; rfl
          have f23 : (X.toList == [124, 124]) = false := by rw [hv]; rfl
          have f24 : (X.toList == [60, 45]) = false := by rw [hv]; rfl
          have f25 : (X.toList == [43, 43]) = false := by rw [hv]; rfl
          have f26 : (X.toList == [45, 45]) = false := by rw [hv]; rfl
          have f27 : (X.toList == [61, 61]) = false := by rw [hv]; rfl
          have f28 : (X.toList == [60]) = false := by rw [hv]; rfl
          have f29 : (X.toList == [62]) = false := by rw [hv]; rfl
          have f30 : (X.toList == [61]) = false := by rw [hv]; rfl
          have f31 : (X.toList == [33]) = false := by rw [hv]; rfl
          have f32 : (X.toList == [126]) = false := by rw [hv]; rfl
          have f33 : (X.toList == [33, 61]) = false := by rw [hv]; rfl
          have f34 : (X.toList == [60, 61]) = false := by rw [hv]; rfl
          have f35 : (X.toList == [62, 61]) = false := by rw [hv]; rfl
          have f36 : (X.toList == [58, 61]) = false := by rw [hv]; rfl
          have f37 : (X.toList == [46, 46, 46]) = false := by rw [hv]; rfl
          have f38 : (X.toList == [40]) = false := by rw [hv]; rfl
          have f39 : (X.toList == [41]) = false := by rw [hv]; rfl
          have f40 : (X.toList == [91]) = false := by rw [hv]; rfl
          have f41 : (X.toList == [93]) = false := by rw [hv]; rfl
          have f42 : (X.toList == [123]) = false := by rw [hv]; rfl
          have f43 : (X.toList == [125]) = false := by rw [hv]; rfl
          have f44 : (X.toList == [44]) = false := by rw [hv]; rfl
          have f45 : (X.toList == [46]) = false := by rw [hv]; rfl
          have f46 : (X.toList == [58]) = false := by rw [hv]; rfl
          clear hXl hmem hv
          go_wp2
          rw [Exit.noGoto_ret]
          go_ret2
          exact ⟨by rw [HS.out]; rfl, rfl⟩
        · have hv : (s.data.toList.drop a).take n = [45, 61] := by simpa using hmem
          rw [← hXl] at hv
          have f0 : (X.toList == [43]) = false := by rw [hv]; rfl
          have f1 : (X.toList == [45]) = false := by rw [hv]; rfl
          have f2 : (X.toList == [42]) = false := by rw [hv]; rfl
          have f3 : (X.toList == [47]) = false := by rw [hv]; rfl
          have f4 : (X.toList == [37]) = false := by rw [hv]; rfl
          have f5 : (X.toList == [38]) = false := by rw [hv]; rfl
          have f6 : (X.toList == [124]) = false := by rw [hv]; rfl
          have f7 : (X.toList == [94]) = false := by rw [hv]; rfl
          have f8 : (X.toList == [60, 60]) = false := by rw [hv]; rfl
          have f9 : (X.toList == [62, 62]) = false := by rw [hv]; rfl
          have f10 : (X.toList == [38, 94]) = false := by rw [hv]; rfl
          have f11 : (X.toList == [43, 61]) = false := by rw [hv]; rfl
          have f12 : (X.toList == [45, 61]) = true := by rw [hv]; rfl
          have f13 : (X.toList == [42, 61]) = false := by rw [hv]; rfl
          have f14 : (X.toList == [47, 61]) = false := by rw [hv]; rfl
          have f15 : (X.toList == [37, 61]) = false := by rw [hv]; rfl
          have f16 : (X.toList == [38, 61]) = false := by rw [hv]; rfl
          have f17 : (X.toList == [124, 61]) = false := by rw [hv]; rfl
          have f18 : (X.toList == [94, 61]) = false := by rw [hv]; rfl
          have f19 : (X.toList == [60, 60, 61]) = false := by rw [hv]; rfl
          have f20 : (X.toList == [62, 62, 61]) = false := by rw [hv]; rfl
          have f21 : (X.toList == [38, 94, 61]) = false := by rw [hv]; rfl
          have f22 : (X.toList == [38, 38]) = false := by rw [hv]; rfl
          have f23 : (X.toList == [124, 124]) = false := by rw [hv]; rfl
          have f24 : (X.toList == [60, 45]) = false := by rw [hv]; rfl
          have f25 : (X.toList == [43, 43]) = false := by rw [hv]; rfl
          have f26 : (X.toList == [45, 45]) = false := by rw [hv]; rfl
          have f27 : (X.toList == [61, 61]) = false := by rw [hv]; rfl
          have f28 : (X.toList == [60]) = false := by rw [hv]; rfl
          have f29 : (X.toList == [62]) = false := by rw [hv]; rfl
          have f30 : (X.toList == [61]) = false := by rw [hv]; rfl
          have f31 : (X.toList == [33]) = false := by rw [hv]; rfl
          have f32 : (X.toList == [126]) = false := by rw [hv]; rfl
          have f33 : (X.toList == [33, 61]) = false := by rw [hv]; rfl
          have f34 : (X.toList == [60, 61]) = false := by rw [hv]; rfl
          have f35 : (X.toList == [62, 61]) = false := by rw [hv]; rfl
          have f36 : (X.toList == [58, 61]) = false := by rw [hv]; rfl
          have f37 : (X.toList == [46, 46, 46]) = false := by rw [hv]; rfl
          have f38 : (X.toList == [40]) = false := by rw [hv]; rfl
          have f39 : (X.toList == [41]) = false := by rw [hv]; rfl
          have f40 : (X.toList == [91]) = false := by rw [hv]; rfl
          have f41 : (X.toList == [93]) = false := by rw [hv]; rfl
          have f42 : (X.toList == [123]) = false := by rw [hv]; rfl
          have f43 : (X.toList == [125]) = false := by rw [hv]; rfl
          have f44 : (X.toList == [44]) = false := by rw [hv]; rfl
          have f45 : (X.toList == [46]) = false := by rw [hv]; rfl
          have f46 : (X.toList == [58]) = false := by rw [hv]; rfl
          clear hXl hmem hv
          go_wp2
          rw [Exit.noGoto_ret]
          go_ret2
          exact ⟨by rw [HS.out]; rfl, rfl⟩
        · have hv : (s.data.toList.drop a).take n = [42, 61] := by simpa using hmem
          rw [← hXl] at hv
          have f0 : (X.toList == [43]) = false := by rw [hv]; rfl
          have f1 : (X.toList == [45]) = false := by rw [hv]; rfl
          have f2 : (X.toList == [42]) = false := by rw [hv]; rfl
          have f3 : (X.toList == [47]) = false := by rw [hv]; rfl
          have f4 : (X.toList == [37]) = false := by rw [hv]; rfl
          have f5 : (X.toList == [38]) = false := by rw [hv]; rfl
          have f6 : (X.toList == [124]) = false := by rw [hv]; rfl
          have f7 : (X.toList == [94]) = false := by rw [hv]; rfl
          have f8 : (X.toList == [60, 60]) = false := by rw [hv]; rfl
          have f9 : (X.toList == [62, 62]) = false := by rw [hv]; rfl
          have f10 : (X.toList == [38, 94]) = false := by rw [hv]; rfl
          have f11 : (X.toList == [43, 61]) = false := by rw [hv]; rfl
          have f12 : (X.toList == [45, 61]) = false := by rw [hv]; rfl
          have f13 : (X.toList == [42, 61]) = true := by rw [hv]; rfl
          have f14 : (X.toList == [47, 61]) = false := by rw [hv]; rfl
          have f15 : (X.toList == [37, 61]) = false := by rw [hv]; rfl
          have f16 : (X.toList == [38, 61]) = false := by rw [hv]; rfl
          have f17 : (X.toList == [124, 61]) = false := by rw [hv]; rfl
          have f18 : (X.toList == [94, 61]) = false := by rw [hv]; rfl
          have f19 : (X.toList == [60, 60, 61]) = false := by rw [hv]; rfl
          have f20 : (X.toList == [62, 62, 61]) = false := by rw [hv]; rfl
          have f21 : (X.toList == [38, 94, 61]) = false := by rw [hv]; rfl
          have f22 : (X.toList == [38, 38]) = false := by rw [hv]; rfl
          have f23 : (X.toList == [124, 124]) = false := by rw [hv]; rfl
          have f24 : (X.toList == [60, 45]) = false := by rw [hv]; rfl
          have f25 : (X.toList == [43, 43]) = false := by rw [hv]; rfl
          have f26 : (X.toList == [45, 45]) = false := by rw [hv]; rfl
          have f27 : (X.toList == [61, 61]) = false := by rw [hv]; rfl
          have f28 : (X.toList == [60]) = false := by rw [hv]; rfl
          have f29 : (X.toList == [62]) = false := by rw [hv]; rfl
          have f30 : (X.toList == [61]) = false := by rw [hv]; rfl
          have f31 : (X.toList == [33]) = false := by rw [hv]; rfl
          have f32 : (X.toList == [126]) = false := by rw [hv]; rfl
          have f33 : (X.toList == [33, 61]) = false := by rw [hv]; rfl
          have f34 : (X.toList == [60, 61]) = false := by rw [hv]; rfl
          have f35 : (X.toList == [62, 61]) = false := by rw [hv]; rfl
          have f36 : (X.toList == [58, 61]) = false := by rw [hv]; rfl
          have f37 : (X.toList == [46, 46, 46]) = false := by rw [hv]; rfl
          have f38 : (X.toList == [40]) = false := by rw [hv]; rfl
          have f39 : (X.toList == [41]) = false := by rw [hv]; rfl
          have f40 : (X.toList == [91]) = false := by rw [hv]; rfl
          have f41 : (X.toList == [93]) = false := by rw [hv]; rfl
          have f42 : (X.toList == [123]) = false := by rw [hv]; rfl
          have f43 : (X.toList == [125]) = false := by rw [hv]; rfl
          have f44 : (X.toList == [44]) = false := by rw [hv]; rfl
          have f45 : (X.toList == [46]) = false := by rw [hv]; rfl
          have f46 : (X.toList == [58]) = false := by rw [hv]; rfl
          clear hXl hmem hv
          go_wp2
          rw [Exit.noGoto_ret]
          go_ret2
          exact ⟨by rw [HS.out]; rfl, rfl⟩
        · have hv : (s.data.toList.drop a).take n = [47, 61] := by simpa using hmem
          rw [← hXl] at hv
          have f0 : (X.toList == [43]) = false := by rw [hv]; rfl
          have f1 : (X.toList == [45]) = false := by rw [hv]; rfl
          have f2 : (X.toList == [42]) = false := by rw [hv]; rfl
          have f3 : (X.toList == [47]) = false := by rw [hv]; rfl
          have f4 : (X.toList == [37]) = false := by rw [hv]; rfl
          have f5 : (X.toList == [38]) = false := by rw [hv]; rfl
          have f6 : (X.toList == [124]) = false := by rw [hv]; rfl
          have f7 : (X.toList == [94]) = false := by rw [hv]; rfl
          have f8 : (X.toList == [60, 60]) = false := by rw [hv]; rfl
          have f9 : (X.toList == [62, 62]) = false := by rw [hv]; rfl
          have f10 : (X.toList == [38, 94]) = false := by rw [hv]; rfl
          have f11 : (X.toList == [43, 61]) = false := by rw [hv]; rfl
          have f12 : (X.toList == [45, 61]) = false := by rw [hv]; rfl
          have f13 : (X.toList == [42, 61]) = false := by rw [hv]; rfl
          have f14 : (X.toList == [47, 61]) = true := by rw [hv]; rfl
          have f15 : (X.toList == [37, 61]) = false := by rw [hv]; rfl
          have f16 : (X.toList == [38, 61]) = false := by rw [hv]; rfl
          have f17 : (X.toList == [124, 61]) = false := by rw [hv]; rfl
          have f18 : (X.toList == [94, 61]) = false := by rw [hv]; rfl
          have f19 : (X.toList == [60, 60, 61]) = false := by rw [hv]; rfl
          have f20 : (X.toList == [62, 62, 61]) = false := by rw [hv]; rfl
          have f21 : (X.toList == [38, 94, 61]) = false := by rw [hv]; rfl
          have f22 : (X.toList == [38, 38]) = false := by rw [hv]; rfl
          have f23 : (X.toList == [124, 124]) = false := by rw [hv]; rfl
          have f24 : (X.toList == [60, 45]) = false := by rw [hv]; rfl
          have f25 : (X.toList == [43, 43]) = false := by rw [hv]; rfl
          have f26 : (X.toList == [45, 45]) = false := by rw [hv]; rfl
          have f27 : (X.toList == [61, 61]) = false := by rw [hv]; rfl
          have f28 : (X.toList == [60]) = false := by rw [hv]; rfl
          have f29 : (X.toList == [62]) = false := by rw [hv]; rfl
          have f30 : (X.toList == [61]) = false := by rw [hv]; rfl
          have f31 : (X.toList == [33]) = false := by rw [hv]; rfl
          have f32 : (X.toList == [126]) = false := by rw [hv]; rfl
          have f33 : (X.toList == [33, 61]) = false := by rw [hv]; rfl
          have f34 : (X.toList == [60, 61]) = false := by rw [hv]; rfl
          have f35 : (X.toList == [62, 61]) = false := by rw [hv]; rfl
          have f36 : (X.toList == [58, 61]) = false := by rw [hv]; rfl
          have f37 : (X.toList == [46, 46, 46]) = false := by rw [hv]; rfl
          have f38 : (X.toList == [40]) = false := by rw [hv]; rfl
          have f39 : (X.toList == [41]) = false := by rw [hv]; rfl
          have f40 : (X.toList == [91]) = false := by rw [hv]; rfl
          have f41 : (X.toList == [93]) = false := by rw [hv]; rfl
          have f42 : (X.toList == [123]) = false := by rw [hv]; rfl
          have f43 : (X.toList == [125]) = false := by rw [hv]; rfl
          have f44 : (X.toList == [44]) = false := by rw [hv]; rfl
          have f45 : (X.toList == [46]) = false := by rw [hv]; rfl
          have f46 : (X.toList == [58]) = false := by rw [hv]; rfl
          clear hXl hmem hv
          go_wp2
          rw [Exit.noGoto_ret]
          go_ret2
          exact ⟨by rw [HS.out]; rfl, rfl⟩
        · have hv : (s.data.toList.drop a).take n = [37, 61] := by simpa using hmem
          rw [← hXl] at hv
          have f0 : (X.toList == [43]) = false := by rw [hv]; rfl
          have f1 : (X.toList == [45]) = false := by rw [hv]; rfl
          have f2 : (X.toList == [42]) = false := by rw [hv]; rfl
          have f3 : (X.toList == [47]) = false := by rw [hv]; rfl
          have f4 : (X.toList == [37]) = false := by rw [hv]; rfl
          have f5 : (X.toList == [38]) = false := by rw [hv]; rfl
          have f6 : (X.toList == [124]) = false := by rw [hv]; rfl
          have f7 : (X.toList == [94]) = false := by rw [hv]; rfl
          have f8 : (X.toList == [60, 60]) = false := by rw [hv]; rfl
          have f9 : (X.toList == [62, 62]) = false := by rw [hv]; rfl
          have f10 : (X.toList == [38, 94]) = false := by rw [hv]; rfl
          have f11 : (X.toList == [43, 61]) = false := by rw [hv]; rfl
          have f12 : (X.toList == [45, 61]) = false := by rw [hv]; rfl
          have f13 : (X.toList == [42, 61]) = false := by rw [hv]; rfl
          have f14 : (X.toList == [47, 61]) = false := by rw [hv]; rfl
          have f15 : (X.toList == [37, 61]) = true := by rw [hv]; rfl
          have f16 : (X.toList == [38, 61]) = false := by rw [hv]; rfl
          have f17 : (X.toList == [124, 61]) = false := by rw [hv]; rfl
          have f18 : (X.toList == [94, 61]) = false := by rw [hv]; rfl
          have f19 : (X.toList == [60, 60, 61]) = false := by rw [hv]; rfl
          have f20 : (X.toList == [62, 62, 61]) = false := by rw [hv]; rfl
          have f21 : (X.toList == [38, 94, 61]) = false := by rw [hv]; rfl
          have f22 : (X.toList == [38, 38]) = false := by rw [hv]; rfl
          have f23 : (X.toList == [124, 124]) = false := by rw [hv]; rfl
          have f24 : (X.toList == [60, 45]) = false := by rw [hv]; rfl
          have f25 : (X.toList == [43, 43]) = false := by rw [hv]; rfl
          have f26 : (X.toList == [45, 45]) = false := by rw [hv]; rfl
          have f27 : (X.toList == [61, 61]) = false := by rw [hv]; rfl
          have f28 : (X.toList == [60]) = false := by rw [hv]; rfl
          have f29 : (X.toList == [62]) = false := by rw [hv]; rfl
          have f30 : (X.toList == [61]) = false := by rw [hv]; rfl
          have f31 : (X.toList == [33]) = false := by rw [hv]; rfl
          have f32 : (X.toList == [126]) = false := by rw [hv]; rfl
          have f33 : (X.toList == [33, 61]) = false := by rw [hv]; rfl
          have f34 : (X.toList == [60, 61]) = false := by rw [hv]; rfl
          have f35 : (X.toList == [62, 61]) = false := by rw [hv]; rfl
          have f36 : (X.toList == [58, 61]) = false := by rw [hv]; rfl
          have f37 : (X.toList == [46, 46, 46]) = false := by rw [hv]; rfl
          have f38 : (X.toList == [40]) = false := by rw [hv]; rfl
          have f39 : (X.toList == [41]) = false := by rw [hv]; rfl
          have f40 : (X.toList == [91]) = false := by rw [hv]; rfl
          have f41 : (X.toList == [93]) = false := by rw [hv]; rfl
          have f42 : (X.toList == [123]) = false := by rw [hv]; rfl
          have f43 : (X.toList == [125]) = false := by rw [hv]; rfl
          have f44 : (X.toList == [44]) = false := by rw [hv]; rfl
          have f45 : (X.toList == [46]) = false := by rw [hv]; rfl
          have f46 : (X.toList == [58]) = false := by rw [hv]; rfl
          clear hXl hmem hv
          go_wp2
          rw [Exit.noGoto_ret]
          go_ret2
          exact ⟨by rw [HS.out]; rfl, rfl⟩
        · have hv : (s.data.toList.drop a).take n = [38, 61] := by simpa using hmem
          rw [← hXl] at hv
          have f0 : (X.toList == [43]) = false := by rw [hv]; rfl
          have f1 : (X.toList == [45]) = false := by rw [hv]; rfl
          have f2 : (X.toList == [42]) = false := by rw [hv]; rfl
          have f3 : (X.toList == [47]) = false := by rw [hv]; rfl
          have f4 : (X.toList == [37]) = false := by rw [hv]; rfl
          have f5 : (X.toList == [38]) = false := by rw [hv]; rfl
          have f6 : (X.toList == [124]) = false := by rw [hv]; rfl
          have f7 : (X.toList == [94]) = false := by rw [hv]; rfl
          have f8 : (X.toList == [60, 60]) = false := by rw [hv]; rfl
          have f9 : (X.toList == [62, 62]) = false := by rw [hv]; rfl
          have f10 : (X.toList == [38, 94]) = false := by rw [hv]; rfl
          have f11 : (X.toList == [43, 61]) = false := by rw [hv]; rfl
          have f12 : (X.toList == [45, 61]) = false := by rw [hv]; rfl
          have f13 : (X.toList == [42, 61]) = false := by rw [hv]; rfl
          have f14 : (X.toList == [47, 61]) = false := by rw [hv]; rfl
          have f15 : (X.toList == [37, 61]) = false := by rw [hv]; rfl
          have f16 : (X.toList == [38, 61]) = true := by rw [hv]; rfl
          have f17 : (X.toList == [124, 61]) = false := by rw [hv]; rfl
          have f18 : (X.toList == [94, 61]) = false := by rw [hv]; rfl
          have f19 : (X.toList == [60, 60, 61]) = false := by rw [hv]; rfl
          have f20 : (X.toList == [62, 62, 61]) = false := by rw [hv]; rfl
          have f21 : (X.toList == [38, 94, 61]) = false := by rw [hv]; rfl
          have f22 : (X.toList == [38, 38]) = false := by rw [hv]; rfl
          have f23 : (X.toList == [124, 124]) = false := by rw [hv]; rfl
          have f24 : (X.toList == [60, 45]) = false := by rw [hv]; rfl
          have f25 : (X.toList == [43, 43]) = false := by rw [hv]; rfl
          have f26 : (X.toList == [45, 45]) = false := by rw [hv]; rfl
          have f27 : (X.toList == [61, 61]) = false := by rw [hv]; rfl
          have f28 : (X.toList == [60]) = false := by rw [hv]; rfl
          have f29 : (X.toList == [62]) = false := by rw [hv]; rfl
          have f30 : (X.toList == [61]) = false := by rw [hv]; rfl
          have f31 : (X.toList == [33]) = false := by rw [hv]; rfl
          have f32 : (X.toList == [126]) = false := by rw [hv]; rfl
          have f33 : (X.toList == [33, 61]) = false := by rw [hv]; rfl
          have f34 : (X.toList == [60, 61]) = false := by rw [hv]; rfl
          have f35 : (X.toList == [62, 61]) = false := by rw [hv]; rfl
          have f36 : (X.toList == [58, 61]) = false := by rw [hv]; rfl
          have f37 : (X.toList == [46, 46, 46]) = false := by rw [hv]; rfl
          have f38 : (X.toList == [40]) = false := by rw [hv]; rfl
          have f39 : (X.toList == [41]) = false := by rw [hv]; rfl
          have f40 : (X.toList == [91]) = false := by rw [hv]; rfl
          have f41 : (X.toList == [93]) = false := by rw [hv]; rfl
          have f42 : (X.toList == [123]) = false := by rw [hv]; rfl
          have f43 : (X.toList == [125]) = false := by rw [hv]; rfl
          have f44 : (X.toList == [44]) = false := by rw [hv]; rfl
          have f45 : (X.toList == [46]) = false := by rw [hv]; rfl
          have f46 : (X.toList == [58]) = false := by rw [hv]; rfl
          clear hXl hmem hv
          go_wp2
          rw [Exit.noGoto_ret]
          go_ret2
          exact ⟨by rw [HS.out]; rfl, rfl⟩
        · have hv : (s.data.toList.drop a).take n = [124, 61] := by simpa using hmem
          rw [← hXl] at hv
          have f0 : (X.toList == [43]) = false := by rw [hv]; rfl
          have f1 : (X.toList == [45]) = false := by rw [hv]; rfl
          have f2 : (X.toList == [42]) = false := by rw [hv]; rfl
          have f3 : (X.toList == [47]) = false := by rw [hv]; rfl
          have f4 : (X.toList == [37]) = false := by rw [hv]; rfl
          have f5 : (X.toList == [38]) = false := by rw [hv]; rfl
          have f6 : (X.toList == [124]) = false := by rw [hv]; rfl
          have f7 : (X.toList == [94]) = false := by rw [hv]; rfl
          have f8 : (X.toList == [60, 60]) = false := by rw [hv]; rfl
          have f9 : (X.toList == [62, 62]) = false := by rw [hv]; rfl
          have f10 : (X.toList == [38, 94]) = false := by rw [hv]; rfl
          have f11 : (X.toList == [43, 61]) = false := by rw [hv]; rfl
          have f12 : (X.toList == [45, 61]) = false := by rw [hv]; rfl
          have f13 : (X.toList == [42, 61]) = false := by rw [hv]; rfl
          have f14 : (X.toList == [47, 61]) = false := by rw [hv]; rfl
          have f15 : (X.toList == [37, 61]) = false := by rw [hv]; rfl
          have f16 : (X.toList == [38, 61]) = false := by rw [hv]; rfl
          have f17 : (X.toList == [124, 61]) = true := by rw [hv]; rfl
          have f18 : (X.toList == [94, 61]) = false := by rw [hv]; rfl
          have f19 : (X.toList == [60, 60, 61]) = false := by rw [hv]; rfl
          have f20 : (X.toList == [62, 62, 61]) = false := by rw [hv]; rfl
          have f21 : (X.toList == [38, 94, 61]) = false := by rw [hv]; rfl
          have f22 : (X.toList == [38, 38]) = false := by rw [hv]; rfl
          have f23 : (X.toList == [124, 124]) = false := by rw [hv]; rfl
          have f24 : (X.toList == [60, 45]) = false := by rw [hv]; rfl
          have f25 : (X.toList == [43, 43]) = false := by rw [hv]; rfl
          have f26 : (X.toList == [45, 45]) = false := by rw [hv]; rfl
          have f27 : (X.toList == [61, 61]) = false := by rw [hv]; rfl
          have f28 : (X.toList == [60]) = false := by rw [hv]; rfl
          have f29 : (X.toList == [62]) = false := by rw [hv]; rfl
          have f30 : (X.toList == [61]) = false := by rw [hv]; rfl
          have f31 : (X.toList == [33]) = false := by rw [hv]; rfl
          have f32 : (X.toList == [126]) = false := by rw [hv]; rfl
          have f33 : (X.toList == [33, 61]) = false := by rw [hv]; rfl
          have f34 : (X.toList == [60, 61]) = false := by rw [hv]; rfl
          have f35 : (X.toList == [62, 61]) = false := by rw [hv]; rfl
          have f36 : (X.toList == [58, 61]) = false := by rw [hv]; rfl
          have f37 : (X.toList == [46, 46, 46]) = false := by rw [hv]; rfl
          have f38 : (X.toList == [40]) = false := by rw [hv]; rfl
          have f39 : (X.toList == [41]) = false := by rw [hv]; rfl
          have f40 : (X.toList == [91]) = false := by rw [hv]; rfl
          have f41 : (X.toList == [93]) = false := by rw [hv]; rfl
          have f42 : (X.toList == [123]) = false := by rw [hv]; rfl
          have f43 : (X.toList == [125]) = false := by rw [hv]; rfl
          have f44 : (X.toList == [44]) = false := by rw [hv]; rfl
          have f45 : (X.toList == [46]) = false := by rw [hv]; rfl
          have f46 : (X.toList == [58]) = false := by rw [hv]; rfl
          clear hXl hmem hv
          go_wp2
          rw [Exit.noGoto_ret]
          go_ret2
          exact ⟨by rw [HS.out]; rfl, rfl⟩
        · have hv : (s.data.toList.drop a).take n = [94, 61] := by simpa using hmem
          rw [← hXl] at hv
          have f0 : (X.toList == [43]) = false := by rw [hv]; rfl
          have f1 : (X.toList == [45]) = false := by rw [hv]; rfl
          have f2 : (X.toList == [42]) = false := by rw [hv]; rfl
          have f3 : (X.toList == [47]) = false := by rw [hv]; rfl
          have f4 : (X.toList == [37]) = false := by rw [hv]; rfl
          have f5 : (X.toList == [38]) = false := by rw [hv]; rfl
          have f6 : (X.toList == [124]) = false := by rw [hv]; rfl
          have f7 : (X.toList == [94]) = false := by rw [hv]; rfl
          have f8 : (X.toList == [60, 60]) = false := by rw [hv]; rfl
          have f9 : (X.toList == [62, 62]) = false := by rw [hv]; rfl
          have f10 : (X.toList == [38, 94]) = false := by rw [hv]; rfl
          have f11 : (X.toList == [43, 61]) = false := by rw [hv]; rfl
          have f12 : (X.toList == [45, 61]) = false := by rw [hv]; rfl
          have f13 : (X.toList == [42, 61]) = false := by rw [hv]; rfl
          have f14 : (X.toList == [47, 61]) = false := by rw [hv]; rfl
          have f15 : (X.toList == [37, 61]) = false := by rw [hv]; rfl
          have f16 : (X.toList == [38, 61]) = false := by rw [hv]; rfl
          have f17 : (X.toList == [124, 61]) = false := by rw [hv]; rfl
          have f18 : (X.toList == [94, 61]) = true := by rw [hv]; rfl
          have f19 : (X.toList == [60, 60, 61]) = false := by rw [hv]; rfl
          have f20 : (X.toList == [62, 62, 61]) = false := by rw [hv]; rfl
          have f21 : (X.toList == [38, 94, 61]) = false := by rw [hv]; rfl
          have f22 : (X.toList == [38, 38]) = false := by rw [hv]; rfl
          have f23 : (X.toList == [124, 124]) = false := by rw [hv]; rfl
          have f24 : (X.toList == [60, 45]) = false := by rw [hv]; rfl
          have f25 : (X.toList == [43, 43]) = false := by rw [hv]; rfl
          have f26 : (X.toList == [45, 45]) = false := by rw [hv]; rfl
          have f27 : (X.toList == [61, 61]) = false := by rw [hv]; rfl
          have f28 : (X.toList == [60]) = false := by rw [hv]; rfl
          have f29 : (X.toList == [62]) = false := by rw [hv]; rfl
          have f30 : (X.toList == [61]) = false := by rw [hv]; rfl
          have f31 : (X.toList == [33]) = false := by rw [hv]; rfl
          have f32 : (X.toList == [126]) = false := by rw [hv]; rfl
          have f33 : (X.toList == [33, 61]) = false := by rw [hv]; rfl
          have f34 : (X.toList == [60, 61]) = false := by rw [hv]; rfl
          have f35 : (X.toList == [62, 61]) = false := by rw [hv]; rfl
          have f36 : (X.toList == [58, 61]) = false := by rw [hv]; rfl
          have f37 : (X.toList == [46, 46, 46]) = false := by rw [hv]; rfl
          have f38 : (X.toList == [40]) = false := by rw [hv]; rfl
          have f39 : (X.toList == [41]) = false := by rw [hv]; rfl
          have f40 : (X.toList == [91]) = false := by rw [hv]; rfl
          have f41 : (X.toList == [93]) = false := by rw [hv]; rfl
          have f42 : (X.toList == [123]) = false := by rw [hv]; rfl
          have f43 : (X.toList == [125]) = false := by rw [hv]; rfl
          have f44 : (X.toList == [44]) = false := by rw [hv]; rfl
          have f45 : (X.toList == [46]) = false := by rw [hv]; rfl
          have f46 : (X.toList == [58]) = false := by rw [hv]; rfl
          clear hXl hmem hv
          go_wp2
          rw [Exit.noGoto_ret]
          go_ret2
          exact ⟨by rw [HS.out]; rfl, rfl⟩
        · have hv : (s.data.toList.drop a).take n = [60, 60, 61] := by simpa using hmem
          rw [← hXl] at hv
          have f0 : (X.toList == [43]) = false := by rw [hv]; rfl
          have f1 : (X.toList == [45]) = false := by rw [hv]; rfl
          have f2 : (X.toList == [42]) = false := by rw [hv]; rfl
          have f3 : (X.toList == [47]) = false := by rw [hv]; rfl
          have f4 : (X.toList == [37]) = false := by rw [hv]; rfl
          have f5 : (X.toList == [38]) = false := by rw [hv]; rfl
          have f6 : (X.toList == [124]) = false := by rw [hv]; rfl
          have f7 : (X.toList == [94]) = false := by rw [hv]; rfl
          have f8 : (X.toList == [60, 60]) = false := by rw [hv]; rfl
          have f9 : (X.toList == [62, 62]) = false := by rw [hv]; rfl
          have f10 : (X.toList == [38, 94]) = false := by rw [hv]; rfl
          have f11 : (X.toList == [43, 61]) = false := by rw [hv]; rfl
          have f12 : (X.toList == [45, 61]) = false := by rw [hv]; rfl
          have f13 : (X.toList == [42, 61]) = false := by rw [hv]; rfl
          have f14 : (X.toList == [47, 61]) = false := by rw [hv]; rfl
          have f15 : (X.toList == [37, 61]) = false := by rw [hv]; rfl
          have f16 : (X.toList == [38, 61]) = false := by rw [hv]; rfl
          have f17 : (X.toList == [124, 61]) = false := by rw [hv]; rfl
          have f18 : (X.toList == [94, 61]) = false := by rw [hv]; rfl
          have f19 : (X.toList == [60, 60, 61]) = true := by rw [hv]; rfl
          have f20 : (X.toList == [62, 62, 61]) = false := by rw [hv]; rfl
          have f21 : (X.toList == [38, 94, 61]) = false := by rw [hv]; rfl
          have f22 : (X.toList == [38, 38]) = false := by rw [hv]; rfl
          have f23 : (X.toList == [124, 124]) = false := by rw [hv]; rfl
          have f24 : (X.toList == [60, 45]) = false := by rw [hv]; rfl
          have f25 : (X.toList == [43, 43]) = false := by rw [hv]; rfl
          have f26 : (X.toList == [45, 45]) = false := by rw [hv]; rfl
          have f27 : (X.toList == [61, 61]) = false := by rw [hv]; rfl
          have f28 : (X.toList == [60]) = false := by rw [hv]; rfl
          have f29 : (X.toList == [62]) = false := by rw [hv]; rfl
          have f30 : (X.toList == [61]) = false := by rw [hv]; rfl
          have f31 : (X.toList == [33]) = false := by rw [hv]; rfl
          have f32 : (X.toList == [126]) = false := by rw [hv]; rfl
          have f33 : (X.toList == [33, 61]) = false := by rw [hv]; rfl
          have f34 : (X.toList == [60, 61]) = false := by rw [hv]; rfl
          have f35 : (X.toList == [62, 61]) = false := by rw [hv]; rfl
          have f36 : (X.toList == [58, 61]) = false := by rw [hv]; rfl
          have f37 : (X.toList == [46, 46, 46]) = false := by rw [hv]; rfl
          have f38 : (X.toList == [40]) = false := by rw [hv]; rfl
          have f39 : (X.toList == [41]) = false := by rw [hv]; rfl
          have f40 : (X.toList == [91]) = false := by rw [hv]; rfl
          have f41 : (X.toList == [93]) = false := by rw [hv]; rfl
          have f42 : (X.toList == [123]) = false := by rw [hv]; rfl
          have f43 : (X.toList == [125]) = false := by rw [hv]; rfl
          have f44 : (X.toList == [44]) = false := by rw [hv]; rfl
          have f45 : (X.toList == [46]) = false := by rw [hv]; rfl
          have f46 : (X.toList == [58]) = false := by rw [hv]; rfl
          clear hXl hmem hv
          go_wp2
          rw [Exit.noGoto_ret]
          go_ret2
          exact ⟨by rw [HS.out]; rfl, rfl⟩
        · have hv : (s.data.toList.drop a).take n = [62, 62, 61] := by simpa using hmem
          rw [← hXl] at hv
          have f0 : (X.toList == [43]) = false := by rw [hv]; rfl
          have f1 : (X.toList == [45]) = false := by rw [hv]; rfl
          have f2 : (X.toList == [42]) = false := by rw [hv]; rfl
          have f3 : (X.toList == [47]) = false := by rw [hv]; rfl
          have f4 : (X.toList == [37]) = false := by rw [hv]; rfl
          have f5 : (X.toList == [38]) = false := by rw [hv]; rfl
          have f6 : (X.toList == [124]) = false := by rw [hv]; rfl
          have f7 : (X.toList == [94]) = false := by rw [hv]; rfl
          have f8 : (X.toList == [60, 60]) = false := by rw [hv]; rfl
          have f9 : (X.toList == [62, 62]) = false := by rw [hv]; rfl
          have f10 : (X.toList == [38, 94]) = false := by rw [hv]; rfl
          have f11 : (X.toList == [43, 61]) = false := by rw [hv]; rfl
          have f12 : (X.toList == [45, 61]) = false := by rw [hv]; rfl
          have f13 : (X.toList == [42, 61]) = false := by rw [hv]; rfl
          have f14 : (X.toList == [47, 61]) = false := by rw [hv]; rfl
          have f15 : (X.toList == [37, 61]) = false := by rw [hv]; rfl
          have f16 : (X.toList == [38, 61]) = false := by rw [hv]; rfl
          have f17 : (X.toList == [124, 61]) = false := by rw [hv]; rfl
          have f18 : (X.toList == [94, 61]) = false := by rw [hv]; rfl
          have f19 : (X.toList == [60, 60, 61]) = false := by rw [hv]; rfl
          have f20 : (X.toList == [62, 62, 61]) = true := by rw [hv]; rfl
          have f21 : (X.toList == [38, 94, 61]) = false := by rw [hv]; rfl
          have f22 : (X.toList == [38, 38]) = false := by rw [hv]; rfl
          have f23 : (X.toList == [124, 124]) = false := by rw [hv]; rfl
          have f24 : (X.toList == [60, 45]) = false := by rw [hv]; rfl
          have f25 : (X.toList == [43, 43]) = false := by rw [hv]; rfl
          have f26 : (X.toList == [45, 45]) = false := by rw [hv]; rfl
          have f27 : (X.toList == [61, 61]) = false := by rw [hv]; rfl
          have f28 : (X.toList == [60]) = false := by rw [hv]; rfl
          have f29 : (X.toList == [62]) = false := by rw [hv]; rfl
          have f30 : (X.toList == [61]) = false := by rw [hv]; rfl
          have f31 : (X.toList == [33]) = false := by rw [hv]; rfl
          have f32 : (X.toList == [126]) = false := by rw [hv]; rfl
          have f33 : (X.toList == [33, 61]) = false := by rw [hv]; rfl
          have f34 : (X.toList == [60, 61]) = false := by rw [hv]; rfl
          have f35 : (X.toList == [62, 61]) = false := by rw [hv]; rfl
          have f36 : (X.toList == [58, 61]) = false := by rw [hv]; rfl
          have f37 : (X.toList == [46, 46, 46]) = false := by rw [hv]; rfl
          have f38 : (X.toList == [40]) = false := by rw [hv]; rfl
          have f39 : (X.toList == [41]) = false := by rw [hv]; rfl
          have f40 : (X.toList == [91]) = false := by rw [hv]; rfl
          have f41 : (X.toList == [93]) = false := by rw [hv]; rfl
          have f42 : (X.toList == [123]) = false := by rw [hv]; rfl
          have f43 : (X.toList == [125]) = false := by rw [hv]; rfl
          have f44 : (X.toList == [44]) = false := by rw [hv]; rfl
          have f45 : (X.toList == [46]) = false := by rw [hv]; rfl
          have f46 : (X.toList == [58]) = false := by rw [hv]; rfl
          clear hXl hmem hv
          go_wp2
          rw [Exit.noGoto_ret]
          go_ret2
          exact ⟨by rw [HS.out]; rfl, rfl⟩
        · have hv : (s.data.toList.drop a).take n = [38, 94, 61] := by simpa using hmem
          rw [← hXl] at hv
          have f0 : (X.toList == [43]) = false := by rw [hv]; rfl
          have f1 : (X.toList == [45]) = false := by rw [hv]; rfl
          have f2 : (X.toList == [42]) = false := by rw [hv]; rfl
          have f3 : (X.toList == [47]) = false := by rw [hv]; rfl
          have f4 : (X.toList == [37]) = false := by rw [hv]; rfl
          have f5 : (X.toList == [38]) = false := by rw [hv]; rfl
          have f6 : (X.toList == [124]) = false := by rw [hv]; rfl
          have f7 : (X.toList == [94]) = false := by rw [hv]; rfl
          have f8 : (X.toList == [60, 60]) = false := by rw [hv]; rfl
          have f9 : (X.toList == [62, 62]) = false := by rw [hv]; rfl
          have f10 : (X.toList == [38, 94]) = false := by rw [hv]; rfl
          have f11 : (X.toList == [43, 61]) = false := by rw [hv]; rfl
          have f12 : (X.toList == [45, 61]) = false := by rw [hv]; rfl
          have f13 : (X.toList == [42, 61]) = false := by rw [hv]; rfl
          have f14 : (X.toList == [47, 61]) = false := by rw [hv]; rfl
          have f15 : (X.toList == [37, 61]) = false := by rw [hv]; rfl
          have f16 : (X.toList == [38, 61]) = false := by rw [hv]; rfl
          have f17 : (X.toList == [124, 61]) = false := by rw [hv]; rfl
          have f18 : (X.toList == [94, 61]) = false := by rw [hv]; rfl
          have f19 : (X.toList == [60, 60, 61]) = false := by rw [hv]; rfl
          have f20 : (X.toList == [62, 62, 61]) = false := by rw [hv]; rfl
          have f21 : (X.toList == [38, 94, 61]) = true := by rw [hv]; rfl
          have f22 : (X.toList == [38, 38]) = false := by rw [hv]; rfl
          have f23 : (X.toList == [124, 124]) = false := by rw [hv]; rfl
          have f24 : (X.toList == [60, 45]) = false := by rw [hv]; rfl
          have f25 : (X.toList == [43, 43]) = false := by rw [hv]; rfl
          have f26 : (X.toList == [45, 45]) = false := by rw [hv]; rfl
          have f27 : (X.toList == [61, 61]) = false := by rw [hv]; rfl
          have f28 : (X.toList == [60]) = false := by rw [hv]; rfl
          have f29 : (X.toList == [62]) = false := by rw [hv]; rfl
          have f30 : (X.toList == [61]) = false := by rw [hv]; rfl
          have f31 : (X.toList == [33]) = false := by rw [hv]; rfl
          have f32 : (X.toList == [126]) = false := by rw [hv]; rfl
          have f33 : (X.toList == [33, 61]) = false := by rw [hv]; rfl
          have f34 : (X.toList == [60, 61]) = false := by rw [hv]; rfl
          have f35 : (X.toList == [62, 61]) = false := by rw [hv]; rfl
          have f36 : (X.toList == [58, 61]) = false := by rw [hv]; rfl
          have f37 : (X.toList == [46, 46, 46]) = false := by rw [hv]; rfl
          have f38 : (X.toList == [40]) = false := by rw [hv]; rfl
          have f39 : (X.toList == [41]) = false := by rw [hv]; rfl
          have f40 : (X.toList == [91]) = false := by rw [hv]; rfl
          have f41 : (X.toList == [93]) = false := by rw [hv]; rfl
          have f42 : (X.toList == [123]) = false := by rw [hv]; rfl
          have f43 : (X.toList == [125]) = false := by rw [hv]; rfl
          have f44 : (X.toList == [44]) = false := by rw [hv]; rfl
          have f45 : (X.toList == [46]) = false := by rw [hv]; rfl
          have f46 : (X.toList == [58]) = false := by rw [hv]; rfl
          clear hXl hmem hv
          go_wp2
          rw [Exit.noGoto_ret]
          go_ret2
          exact ⟨by rw [HS.out]; rfl, rfl⟩
        · have hv : (s.data.toList.drop a).take n = [38, 38] := by simpa using hmem
          rw [← hXl] at hv
          have f0 : (X.toList == [43]) = false := by rw [hv]; rfl
          have f1 : (X.toList == [45]) = false := by rw [hv]; rfl
          have f2 : (X.toList == [42]) = false := by rw [hv]; rfl
          have f3 : (X.toList == [47]) = false := by rw [hv]; rfl
          have f4 : (X.toList == [37]) = false := by rw [hv]; rfl
          have f5 : (X.toList == [38]) = false := by rw [hv]; rfl
          have f6 : (X.toList == [124]) = false := by rw [hv]; rfl
          have f7 : (X.toList == [94]) = false := by rw [hv]; rfl
          have f8 : (X.toList == [60, 60]) = false := by rw [hv]; rfl
          have f9 : (X.toList == [62, 62]) = false := by rw [hv]; rfl
          have f10 : (X.toList == [38, 94]) = false := by rw [hv]; rfl
          have f11 : (X.toList == [43, 61]) = false := by rw [hv]; rfl
          have f12 : (X.toList == [45, 61]) = false := by rw [hv]; rfl
          have f13 : (X.toList == [42, 61]) = false := by rw [hv]; rfl
          have f14 : (X.toList == [47, 61]) = false := by rw [hv]; rfl
          have f15 : (X.toList == [37, 61]) = false := by rw [hv]; rfl
          have f16 : (X.toList == [38, 61]) = false := by rw [hv]; rfl
          have f17 : (X.toList == [124, 61]) = false := by rw [hv]; rfl
          have f18 : (X.toList == [94, 61]) = false := by rw [hv]; rfl
          have f19 : (X.toList == [60, 60, 61]) = false := by rw [hv]; rfl
          have f20 : (X.toList == [62, 62, 61]) = false := by rw [hv]; rfl
          have f21 : (X.toList == [38, 94, 61]) = false := by rw [hv]; rfl
          have f22 : (X.toList == [38, 38]) = true := by rw [hv]; rfl
          have f23 : (X.toList == [124, 124]) = false := by rw [hv]; rfl
          have f24 : (X.toList == [60, 45]) = false := by rw [hv]; rfl
          have f25 : (X.toList == [43, 43]) = false := by rw [hv]; rfl
          have f26 : (X.toList == [45, 45]) = false := by rw [hv]; rfl
          have f27 : (X.toList == [61, 61]) = false := by rw [hv]; rfl
          have f28 : (X.toList == [60]) = false := by rw [hv]; rfl
          have f29 : (X.toList == [62]) = false := by rw [hv]; rfl
          have f30 : (X.toList == [61]) = false := by rw [hv]; rfl
          have f31 : (X.toList == [33]) = false := by rw [hv]; rfl
          have f32 : (X.toList == [126]) = false := by rw [hv]; rfl
          have f33 : (X.toList == [33, 61]) = false := by rw [hv]; rfl
          have f34 : (X.toList == [60, 61]) = false := by rw [hv]; rfl
          have f35 : (X.toList == [62, 61]) = false := by rw [hv]; rfl
          have f36 : (X.toList == [58, 61]) = false := by rw [hv]; rfl
          have f37 : (X.toList == [46, 46, 46]) = false := by rw [hv]; rfl
          have f38 : (X.toList == [40]) = false := by rw [hv]; rfl
          have f39 : (X.toList == [41]) = false := by rw [hv]; rfl
          have f40 : (X.toList == [91]) = false := by rw [hv]; rfl
          have f41 : (X.toList == [93]) = false := by rw [hv]; rfl
          have f42 : (X.toList == [123]) = false := by rw [hv]; rfl
          have f43 : (X.toList == [125]) = false := by rw [hv]; rfl
          have f44 : (X.toList == [44]) = false := by rw [hv]; rfl
          have f45 : (X.toList == [46]) = false := by rw [hv]; rfl
          have f46 : (X.toList == [58]) = false := by rw [hv]; rfl
          clear hXl hmem hv
          go_wp2
          rw [Exit.noGoto_ret]
          go_ret2
          exact ⟨by rw [HS.out]; rfl, rfl⟩
        · have hv : (s.data.toList.drop a).take n = [124, 124] := by simpa using hmem
          rw [← hXl] at hv
          have f0 : (X.toList == [43]) = false := by rw [hv]; rfl
          have f1 : (X.toList == [45]) = false := by rw [hv]; rfl
          have f2 : (X.toList == [42]) = false := by rw [hv]; rfl
          have f3 : (X.toList == [47]) = false := by rw [hv]; rfl
          have f4 : (X.toList == [37]) = false := by rw [hv]; rfl
          have f5 : (X.toList == [38]) = false := by rw [hv]; rfl
          have f6 : (X.toList == [124]) = false := by rw [hv]; rfl
          have f7 : (X.toList == [94]) = false := by rw [hv]; rfl
          have f8 : (X.toList == [60, 60]) = false := by rw [hv]; rfl
          have f9 : (X.toList == [62, 62]) = false := by rw [hv]; rfl
          have f10 : (X.toList == [38, 94]) = false := by rw [hv]; rfl
          have f11 : (X.toList == [43, 61]) = false := by rw [hv]; rfl
          have f12 : (X.toList == [45, 61]) = false := by rw [hv]; rfl
          have f13 : (X.toList == [42, 61]) = false := by rw [hv]; rfl
          have f14 : (X.toList == [47, 61]) = false := by rw [hv]; rfl
          have f15 : (X.toList == [37, 61]) = false := by rw [hv]; rfl
          have f16 : (X.toList == [38, 61]) = false := by rw [hv]; rfl
          have f17 : (X.toList == [124, 61]) = false := by rw [hv]; rfl
          have f18 : (X.toList == [94, 61]) = false := by rw [hv]; rfl
          have f19 : (X.toList == [60, 60, 61]) = false := by rw [hv]; rfl
          have f20 : (X.toList == [62, 62, 61]) = false := by rw [hv]; rfl
          have f21 : (X.toList == [38, 94, 61]) = false := by rw [hv]; rfl
          have f22 : (X.toList == [38, 38]) = false := by rw [hv]; rfl
          have f23 : (X.toList == [124, 124]) = true := by rw [hv]; rfl
          have f24 : (X.toList == [60, 45]) = false := by rw [hv]; rfl
          have f25 : (X.toList == [43, 43]) = false := by rw [hv]; rfl
          have f26 : (X.toList == [45, 45]) = false := by rw [hv]; rfl
          have f27 : (X.toList == [61, 61]) = false := by rw [hv]; rfl
          have f28 : (X.toList == [60]) = false := by rw [hv]; rfl
          have f29 : (X.toList == [62]) = false := by rw [hv]; rfl
          have f30 : (X.toList == [61]) = false := by rw [hv]; rfl
          have f31 : (X.toList == [33]) = false := by rw [hv]; rfl
          have f32 : (X.toList == [126]) = false := by rw [hv]; rfl
          have f33 : (X.toList == [33, 61]) = false := by rw [hv]; rfl
          have f34 : (X.toList == [60, 61]) = false := by rw [hv]; rfl
          have f35 : (X.toList == [62, 61]) = false := by rw [hv]; rfl
          have f36 : (X.toList == [58, 61]) = false := by rw [hv]; rfl
          have f37 : (X.toList == [46, 46, 46]) = false := by rw [hv]; rfl
          have f38 : (X.toList == [40]) = false := by rw [hv]; rfl
          have f39 : (X.toList == [41]) = false := by rw [hv]; rfl
          have f40 : (X.toList == [91]) = false := by rw [hv]; rfl
          have f41 : (X.toList == [93]) = false := by rw [hv]; rfl
          have f42 : (X.toList == [123]) = false := by rw [hv]; rfl
          have f43 : (X.toList == [125]) = false := by rw [hv]; rfl
          have f44 : (X.toList == [44]) = false := by rw [hv]; rfl
          have f45 : (X.toList == [46]) = false := by rw [hv]; rfl
          have f46 : (X.toList == [58]) = false := by rw [hv]; rfl
          clear hXl hmem hv
          go_wp2
          rw [Exit.noGoto_ret]
          go_ret2
          exact ⟨by rw [HS.out]; rfl, rfl⟩
        · have hv : (s.data.toList.drop a).take n = [60, 45] := by simpa using hmem
          rw [← hXl] at hv
          have f0 : (X.toList == [43]) = false := by rw [hv]; rfl
          have f1 : (X.toList == [45]) = false := by rw [hv]; rfl
          have f2 : (X.toList == [42]) = false := by rw [hv]; rfl
          have f3 : (X.toList == [47]) = false := by rw [hv]; rfl
          have f4 : (X.toList == [37]) = false := by rw [hv]; rfl
          have f5 : (X.toList == [38]) = false := by rw [hv]; rfl
          have f6 : (X.toList == [124]) = false := by rw [hv]; rfl
          have f7 : (X.toList == [94]) = false := by rw [hv]; rfl
          have f8 : (X.toList == [60, 60]) = false := by rw [hv]; rfl
          have f9 : (X.toList == [62, 62]) = false := by rw [hv]; rfl
          have f10 : (X.toList == [38, 94]) = false := by rw [hv]; rfl
          have f11 : (X.toList == [43, 61]) = false := by rw [hv]; rfl
          have f12 : (X.toList == [45, 61]) = false := by rw [hv]; rfl
          have f13 : (X.toList == [42, 61]) = false := by rw [hv]; rfl
          have f14 : (X.toList == [47, 61]) = false := by rw [hv]; rfl
          have f15 : (X.toList == [37, 61]) = false := by rw [hv]; rfl
          have f16 : (X.toList == [38, 61]) = false := by rw [hv]; rfl
          have f17 : (X.toList == [124, 61]) = false := by rw [hv]; rfl
          have f18 : (X.toList == [94, 61]) = false := by rw [hv]; rfl
          have f19 : (X.toList == [60, 60, 61]) = false := by rw [hv]; rfl
          have f20 : (X.toList == [62, 62, 61]) = false := by rw [hv]; rfl
          have f21 : (X.toList == [38, 94, 61]) = false := by rw [hv]; rfl
          have f22 : (X.toList == [38, 38]) = false := by rw [hv]; rfl
          have f23 : (X.toList == [124, 124]) = false := by rw [hv]; rfl
          have f24 : (X.toList == [60, 45]) = true := by rw [hv]; rfl
          have f25 : (X.toList == [43, 43]) = false := by rw [hv]; rfl
          have f26 : (X.toList == [45, 45]) = false := by rw [hv]; rfl
          have f27 : (X.toList == [61, 61]) = false := by rw [hv]; rfl
          have f28 : (X.toList == [60]) = false := by rw [hv]; rfl
          have f29 : (X.toList == [62]) = false := by rw [hv]; rfl
          have f30 : (X.toList == [61]) = false := by rw [hv]; rfl
          have f31 : (X.toList == [33]) = false := by rw [hv]; rfl
          have f32 : (X.toList == [126]) = false := by rw [hv]; rfl
          have f33 : (X.toList == [33, 61]) = false := by rw [hv]; rfl
          have f34 : (X.toList == [60, 61]) = false := by rw [hv]; rfl
          have f35 : (X.toList == [62, 61]) = false := by rw [hv]; rfl
          have f36 : (X.toList == [58, 61]) = false := by rw [hv]; rfl
          have f37 : (X.toList == [46, 46, 46]) = false := by rw [hv]; rfl
          have f38 : (X.toList == [40]) = false := by rw [hv]; rfl
          have f39 : (X.toList == [41]) = false := by rw [hv]; rfl
          have f40 : (X.toList == [91]) = false := by rw [hv]; rfl
          have f41 : (X.toList == [93]) = false := by rw [hv]; rfl
          have f42 : (X.toList == [123]) = false := by rw [hv]; rfl
          have f43 : (X.toList == [125]) = false := by rw [hv]; rfl
          have f44 : (X.toList == [44]) = false := by rw [hv]; rfl
          have f45 : (X.toList == [46]) = false := by rw [hv]; rfl
          have f46 : (X.toList == [58]) = false := by rw [hv]; rfl
          clear hXl hmem hv
          go_wp2
          rw [Exit.noGoto_ret]
          go_ret2
          exact ⟨by rw [HS.out]; rfl, rfl⟩
        · have hv : (s.data.toList.drop a).take n = [43, 43] := by simpa using hmem
          rw [← hXl] at hv
          have f0 : (X.toList == [43]) = false := by rw [hv]; rfl
          have f1 : (X.toList == [45]) = false := by rw [hv]; rfl
          have f2 : (X.toList == [42]) = false := by rw [hv]; rfl
          have f3 : (X.toList == [47]) = false := by rw [hv]; rfl
          have f4 : (X.toList == [37]) = false := by rw [hv]; rfl
          have f5 : (X.toList == [38]) = false := by rw [hv]; rfl
          have f6 : (X.toList == [124]) = false := by rw [hv]; rfl
          have f7 : (X.toList == [94]) = false := by rw [hv]; rfl
          have f8 : (X.toList == [60, 60]) = false := by rw [hv]; rfl
          have f9 : (X.toList == [62, 62]) = false := by rw [hv]; rfl
          have f10 : (X.toList == [38, 94]) = false := by rw [hv]; rfl
          have f11 : (X.toList == [43, 61]) = false := by rw [hv]; rfl
          have f12 : (X.toList == [45, 61]) = false := by rw [hv]; rfl
          have f13 : (X.toList == [42, 61]) = false := by rw [hv]; rfl
          have f14 : (X.toList == [47, 61]) = false := by rw [hv]; rfl
          have f15 : (X.toList == [37, 61]) = false := by rw [hv]; rfl
          have f16 : (X.toList == [38, 61]) = false := by rw [hv]; rfl
          have f17 : (X.toList == [124, 61]) = false := by rw [hv]; rfl
          have f18 : (X.toList == [94, 61]) = false := by rw [hv]; rfl
          have f19 : (X.toList == [60, 60, 61]) = false := by rw [hv]; rfl
          have f20 : (X.toList == [62, 62, 61]) = false := by rw [hv]; rfl
          have f21 : (X.toList == [38, 94, 61]) = false := by rw [hv]; rfl
          have f22 : (X.toList == [38, 38]) = false := by rw [hv]; rfl
          have f23 : (X.toList == [124, 124]) = false := by rw [hv]; rfl
          have f24 : (X.toList == [60, 45]) = false := by rw [hv]; rfl
          have f25 : (X.toList == [43, 43]) = true := by rw [hv]; rfl
          have f26 : (X.toList == [45, 45]) = false := by rw [hv]; rfl
          have f27 : (X.toList == [61, 61]) = false := by rw [hv]; rfl
          have f28 : (X.toList == [60]) = false := by rw [hv]; rfl
          have f29 : (X.toList == [62]) = false := by rw [hv]; rfl
          have f30 : (X.toList == [61]) = false := by rw [hv]; rfl
          have f31 : (X.toList == [33]) = false := by rw [hv]; rfl
          have f32 : (X.toList == [126]) = false := by rw [hv]; rfl
          have f33 : (X.toList == [33, 61]) = false := by rw [hv]; rfl
          have f34 : (X.toList == [60, 61]) = false := by rw [hv]; rfl
          have f35 : (X.toList == [62, 61]) = false := by rw [hv]; rfl
          have f36 : (X.toList == [58, 61]) = false := by rw [hv]; rfl
          have f37 : (X.toList == [46, 46, 46]) = false := by rw [hv]; rfl
          have f38 : (X.toList == [40]) = false := by rw [hv]; rfl
          have f39 : (X.toList == [41]) = false := by rw [hv]; rfl
          have f40 : (X.toList == [91]) = false := by rw [hv]; rfl
          have f41 : (X.toList == [93]) = false := by rw [hv]; rfl
          have f42 : (X.toList == [123]) = false := by rw [hv]; rfl
          have f43 : (X.toList == [125]) = false := by rw [hv]; rfl
          have f44 : (X.toList == [44]) = false := by rw [hv]; rfl
          have f45 : (X.toList == [46]) = false := by rw [hv]; rfl
          have f46 : (X.toList == [58]) = false := by rw [hv]; rfl
          clear hXl hmem hv
          go_wp2
          rw [Exit.noGoto_ret]
          go_ret2
          exact ⟨by rw [HS.out]; rfl, rfl⟩
        · have hv : (s.data.toList.drop a).take n = [45, 45] := by simpa using hmem
          rw [← hXl] at hv
          have f0 : (X.toList == [43]) = false := by rw [hv]; rfl
          have f1 : (X.toList == [45]) = false := by rw [hv]; rfl
          have f2 : (X.toList == [42]) = false := by rw [hv]; rfl
          have f3 : (X.toList == [47]) = false := by rw [hv]; rfl
          have f4 : (X.toList == [37]) = false := by rw [hv]; rfl
          have f5 : (X.toList == [38]) = false := by rw [hv]; rfl
          have f6 : (X.toList == [124]) = false := by rw [hv]; rfl
          have f7 : (X.toList == [94]) = false := by rw [hv]; rfl
          have f8 : (X.toList == [60, 60]) = false := by rw [hv]; rfl
          have f9 : (X.toList == [62, 62]) = false := by rw [hv]; rfl
          have f10 : (X.toList == [38, 94]) = false := by rw [hv]; rfl
          have f11 : (X.toList == [43, 61]) = false := by rw [hv]; rfl
          have f12 : (X.toList == [45, 61]) = false := by rw [hv]; rfl
          have f13 : (X.toList == [42, 61]) = false := by rw [hv]; rfl
          have f14 : (X.toList == [47, 61]) = false := by rw [hv]; rfl
          have f15 : (X.toList == [37, 61]) = false := by rw [hv]; rfl
          have f16 : (X.toList == [38, 61]) = false := by rw [hv]; rfl
          have f17 : (X.toList == [124, 61]) = false := by rw [hv]; rfl
          have f18 : (X.toList == [94, 61]) = false := by rw [hv]; rfl
          have f19 : (X.toList == [60, 60, 61]) = false := by rw [hv]; rfl
          have f20 : (X.toList == [62, 62, 61]) = false := by rw [hv]; rfl
          have f21 : (X.toList == [38, 94, 61]) = false := by rw [hv]; rfl
          have f22 : (X.toList == [38, 38]) = false := by rw [hv]; rfl
          have f23 : (X.toList == [124, 124]) = false := by rw [hv]; rfl
          have f24 : (X.toList == [60, 45]) = false := by rw [hv]; rfl
          have f25 : (X.toList == [43, 43]) = false := by rw [hv]; rfl
          have f26 : (X.toList == [45, 45]) = true := by rw [hv]; rfl
          have f27 : (X.toList == [61, 61]) = false := by rw [hv]; rfl
          have f28 : (X.toList == [60]) = false := by rw [hv]; rfl
          have f29 : (X.toList == [62]) = false := by rw [hv]; rfl
          have f30 : (X.toList == [61]) = false := by rw [hv]; rfl
          have f31 : (X.toList == [33]) = false := by rw [hv]; rfl
          have f32 : (X.toList == [126]) = false := by rw [hv]; rfl
          have f33 : (X.toList == [33, 61]) = false := by rw [hv]; rfl
          have f34 : (X.toList == [60, 61]) = false := by rw [hv]; rfl
          have f35 : (X.toList == [62, 61]) = false := by rw [hv]; rfl
          have f36 : (X.toList == [58, 61]) = false := by rw [hv]; rfl
          have f37 : (X.toList == [46, 46, 46]) = false := by rw [hv]; rfl
          have f38 : (X.toList == [40]) = false := by rw [hv]; rfl
          have f39 : (X.toList == [41]) = false := by rw [hv]; rfl
          have f40 : (X.toList == [91]) = false := by rw [hv]; rfl
          have f41 : (X.toList == [93]) = false := by rw [hv]; rfl
          have f42 : (X.toList == [123]) = false := by rw [hv]; rfl
          have f43 : (X.toList == [125]) = false := by rw [hv]; rfl
          have f44 : (X.toList == [44]) = false := by rw [hv]; rfl
          have f45 : (X.toList == [46]) = false := by rw [hv]; rfl
          have f46 : (X.toList == [58]) = false := by rw [hv]; rfl
          clear hXl hmem hv
          go_wp2
          rw [Exit.noGoto_ret]
          go_ret2
          exact ⟨by rw [HS.out]; rfl, rfl⟩
        · have hv : (s.data.toList.drop a).take n = [61, 61] := by simpa using hmem
          rw [← hXl] at hv
          have f0 : (X.toList == [43]) = false := by rw [hv]; rfl
          have f1 : (X.toList == [45]) = false := by rw [hv]; rfl
          have f2 : (X.toList == [42]) = false := by rw [hv]; rfl
          have f3 : (X.toList == [47]) = false := by rw [hv]; rfl
          have f4 : (X.toList == [37]) = false := by rw [hv]; rfl
          have f5 : (X.toList == [38]) = false := by rw [hv]; rfl
          have f6 : (X.toList == [124]) = false := by rw [hv]; rfl
          have f7 : (X.toList == [94]) = false := by rw [hv]; rfl
          have f8 : (X.toList == [60, 60]) = false := by rw [hv]; rfl
          have f9 : (X.toList == [62, 62]) = false := by rw [hv]; rfl
          have f10 : (X.toList == [38, 94]) = false := by rw [hv]; rfl
          have f11 : (X.toList == [43, 61]) = false := by rw [hv]; rfl
          have f12 : (X.toList == [45, 61]) = false := by rw [hv]; rfl
          have f13 : (X.toList == [42, 61]) = false := by rw [hv]; rfl
          have f14 : (X.toList == [47, 61]) = false := by rw [hv]; rfl
          have f15 : (X.toList == [37, 61]) = false := by rw [hv]; rfl
          have f16 : (X.toList == [38, 61]) = false := by rw [hv]; rfl
          have f17 : (X.toList == [124, 61]) = false := by rw [hv]; rfl
          have f18 : (X.toList == [94, 61]) = false := by rw [hv]; rfl
          have f19 : (X.toList == [60, 60, 61]) = false := by rw [hv]; rfl
          have f20 : (X.toList == [62, 62, 61]) = false := by rw [hv]; rfl
          have f21 : (X.toList == [38, 94, 61]) = false := by rw [hv]; rfl
          have f22 : (X.toList == [38, 38]) = false := by rw [hv]; rfl
          have f23 : (X.toList == [124, 124]) = false := by rw [hv]; rfl
          have f24 : (X.toList == [60, 45]) = false := by rw [hv]; rfl
          have f25 : (X.toList == [43, 43]) = false := by rw [hv]; rfl
          have f26 : (X.toList == [45, 45]) = false := by rw [hv]; rfl
          have f27 : (X.toList == [61, 61]) = true := by rw [hv]; rfl
          have f28 : (X.toList == [60]) = false := by rw [hv]; rfl
          have f29 : (X.toList == [62]) = false := by rw [hv]; rfl
          have f30 : (X.toList == [61]) = false := by rw [hv]; rfl
          have f31 : (X.toList == [33]) = false := by rw [hv]; rfl
          have f32 : (X.toList == [126]) = false := by rw [hv]; rfl
          have f33 : (X.toList == [33, 61]) = false := by rw [hv]; rfl
          have f34 : (X.toList == [60, 61]) = false := by rw [hv]; rfl
          have f35 : (X.toList == [62, 61]) = false := by rw [hv]; rfl
          have f36 : (X.toList == [58, 61]) = false := by rw [hv]; rfl
          have f37 : (X.toList == [46, 46, 46]) = false := by rw [hv]; rfl
          have f38 : (X.toList == [40]) = false := by rw [hv]; rfl
          have f39 : (X.toList == [41]) = false := by rw [hv]; rfl
          have f40 : (X.toList == [91]) = false := by rw [hv]; rfl
          have f41 : (X.toList == [93]) = false := by rw [hv]; rfl
          have f42 : (X.toList == [123]) = false := by rw [hv]; rfl
          have f43 : (X.toList == [125]) = false := by rw [hv]; rfl
          have f44 : (X.toList == [44]) = false := by rw [hv]; rfl
          have f45 : (X.toList == [46]) = false := by rw [hv]; rfl
          have f46 : (X.toList == [58]) = false := by rw [hv]; rfl
          clear hXl hmem hv
          go_wp2
          rw [Exit.noGoto_ret]
          go_ret2
          exact ⟨by rw [HS.out]; rfl, rfl⟩
        · have hv : (s.data.toList.drop a).take n = [60] := by simpa using hmem
          rw [← hXl] at hv
          have f0 : (X.toList == [43]) = false := by rw [hv]; rfl
          have f1 : (X.toList == [45]) = false := by rw [hv]; rfl
          have f2 : (X.toList == [42]) = false := by rw [hv]; rfl
          have f3 : (X.toList == [47]) = false := by rw [hv]; rfl
          have f4 : (X.toList == [37]) = false := by rw [hv]; rfl
          have f5 : (X.toList == [38]) = false := by rw [hv]; rfl
          have f6 : (X.toList == [124]) = false := by rw [hv]; rfl
          have f7 : (X.toList == [94]) = false := by rw [hv]; rfl
          have f8 : (X.toList == [60, 60]) = false := by rw [hv]; rfl
          have f9 : (X.toList == [62, 62]) = false := by rw [hv]; rfl
          have f10 : (X.toList == [38, 94]) = false := by rw [hv]; rfl
          have f11 : (X.toList == [43, 61]) = false := by rw [hv]; rfl
          have f12 : (X.toList == [45, 61]) = false := by rw [hv]; rfl
          have f13 : (X.toList == [42, 61]) = false := by rw [hv]; rfl
          have f14 : (X.toList == [47, 61]) = false := by rw [hv]; rfl
          have f15 : (X.toList == [37, 61]) = false := by rw [hv]; rfl
          have f16 : (X.toList == [38, 61]) = false := by rw [hv]; rfl
          have f17 : (X.toList == [124, 61]) = false := by rw [hv]; rfl
          have f18 : (X.toList == [94, 61]) = false := by rw [hv]; rfl
          have f19 : (X.toList == [60, 60, 61]) = false := by rw [hv]; rfl
          have f20 : (X.toList == [62, 62, 61]) = false := by rw [hv]; rfl
          have f21 : (X.toList == [38, 94, 61]) = false := by rw [hv]; rfl
          have f22 : (X.toList == [38, 38]) = false := by rw [hv]; rfl
          have f23 : (X.toList == [124, 124]) = false := by rw [hv]; rfl
          have f24 : (X.toList == [60, 45]) = false := by rw [hv]; rfl
          have f25 : (X.toList == [43, 43]) = false := by rw [hv]; rfl
          have f26 : (X.toList == [45, 45]) = false := by rw [hv]; rfl
          have f27 : (X.toList == [61, 61]) = false := by rw [hv]; rfl
          have f28 : (X.toList == [60]) = true := by rw [hv]; rfl
          have f29 : (X.toList == [62]) = false := by rw [hv]; rfl
          have f30 : (X.toList == [61]) = false := by rw [hv]; rfl
          have f31 : (X.toList == [33]) = false := by rw [hv]; rfl
          have f32 : (X.toList == [126]) = false := by rw [hv]; rfl
          have f33 : (X.toList == [33, 61]) = false := by rw [hv]; rfl
          have f34 : (X.toList == [60, 61]) = false := by rw [hv]; rfl
          have f35 : (X.toList == [62, 61]) = false := by rw [hv]; rfl
          have f36 : (X.toList == [58, 61]) = false := by rw [hv]; rfl
          have f37 : (X.toList == [46, 46, 46]) = false := by rw [hv]; rfl
          have f38 : (X.toList == [40]) = false := by rw [hv]; rfl
          have f39 : (X.toList == [41]) = false := by rw [hv]; rfl
          have f40 : (X.toList == [91]) = false := by rw [hv]; rfl
          have f41 : (X.toList == [93]) = false := by rw [hv]; rfl
          have f42 : (X.toList == [123]) = false := by rw [hv]; rfl
          have f43 : (X.toList == [125]) = false := by rw [hv]; rfl
          have f44 : (X.toList == [44]) = false := by rw [hv]; rfl
          have f45 : (X.toList == [46]) = false := by rw [hv]; rfl
          have f46 : (X.toList == [58]) = false := by rw [hv]; rfl
          clear hXl hmem hv
          go_wp2
          rw [Exit.noGoto_ret]
          go_ret2
          exact ⟨by rw [HS.out]; rfl, rfl⟩
        · have hv : (s.data.toList.drop a).take n = [62] := by simpa using hmem
          rw [← hXl] at hv
          have f0 : (X.toList == [43]) = false := by rw [hv]; rfl
          have f1 : (X.toList == [45]) = false := by rw [hv]; rfl
          have f2 : (X.toList == [42]) = false := by rw [hv]; rfl
          have f3 : (X.toList == [47]) = false := by rw [hv]; rfl
          have f4 : (X.toList == [37]) = false := by rw [hv]; rfl
          have f5 : (X.toList == [38]) = false := by rw [hv]; rfl
          have f6 : (X.toList == [124]) = false := by rw [hv]; rfl
          have f7 : (X.toList == [94]) = false := by rw [hv]; rfl
          have f8 : (X.toList == [60, 60]) = false := by rw [hv]; rfl
          have f9 : (X.toList == [62, 62]) = false := by rw [hv]; rfl
          have f10 : (X.toList == [38, 94]) = false := by rw [hv]; rfl
          have f11 : (X.toList == [43, 61]) = false := by rw [hv]; rfl
          have f12 : (X.toList == [45, 61]) = false := by rw [hv]; rfl
          have f13 : (X.toList == [42, 61]) = false := by rw [hv]; rfl
          have f14 : (X.toList == [47, 61]) = false := by rw [hv]; rfl
          have f15 : (X.toList == [37, 61]) = false := by rw [hv]; rfl
          have f16 : (X.toList == [38, 61]) = false := by rw [hv]; rfl
          have f17 : (X.toList == [124, 61]) = false := by rw [hv]; rfl
          have f18 : (X.toList == [94, 61]) = false := by rw [hv]; rfl
          have f19 : (X.toList == [60, 60, 61]) = false := by rw [hv]; rfl
          have f20 : (X.toList == [62, 62, 61]) = false := by rw [hv]; rfl
          have f21 : (X.toList == [38, 94, 61]) = false := by rw [hv]; rfl
          have f22 : (X.toList == [38, 38]) = false := by rw [hv]; rfl
          have f23 : (X.toList == [124, 124]) = false := by rw [hv]; rfl
          have f24 : (X.toList == [60, 45]) = false := by rw [hv]; rfl
          have f25 : (X.toList == [43, 43]) = false := by rw [hv]; rfl
          have f26 : (X.toList == [45, 45]) = false := by rw [hv]; rfl
          have f27 : (X.toList == [61, 61]) = false := by rw [hv]; rfl
          have f28 : (X.toList == [60]) = false := by rw [hv]; rfl
          have f29 : (X.toList == [62]) = true := by rw [hv]; rfl
          have f30 : (X.toList == [61]) = false := by rw [hv]; rfl
          have f31 : (X.toList == [33]) = false := by rw [hv]; rfl
          have f32 : (X.toList == [126]) = false := by rw [hv]; rfl
          have f33 : (X.toList == [33, 61]) = false := by rw [hv]; rfl
          have f34 : (X.toList == [60, 61]) = false := by rw [hv]; rfl
          have f35 : (X.toList == [62, 61]) = false := by rw [hv]; rfl
          have f36 : (X.toList == [58, 61]) = false := by rw [hv]; rfl
          have f37 : (X.toList == [46, 46, 46]) = false := by rw [hv]; rfl
          have f38 : (X.toList == [40]) = false := by rw [hv]; rfl
          have f39 : (X.toList == [41]) = false := by rw [hv]; rfl
          have f40 : (X.toList == [91]) = false := by rw [hv]; rfl
          have f41 : (X.toList == [93]) = false := by rw [hv]; rfl
          have f42 : (X.toList == [123]) = false := by rw [hv]; rfl
          have f43 : (X.toList == [125]) = false := by rw [hv]; rfl
          have f44 : (X.toList == [44]) = false := by rw [hv]; rfl
          have f45 : (X.toList == [46]) = false := by rw [hv]; rfl
          have f46 : (X.toList == [58]) = false := by rw [hv]; rfl
          clear hXl hmem hv
          go_wp2
          rw [Exit.noGoto_ret]
          go_ret2
          exact ⟨by rw [HS.out]; rfl, rfl⟩
        · have hv : (s.data.toList.drop a).take n = [61] := by simpa using hmem
          rw [← hXl] at hv
          have f0 : (X.toList == [43]) = false := by rw [hv]; rfl
          have f1 : (X.toList == [45]) = false := by rw [hv]; rfl
          have f2 : (X.toList == [42]) = false := by rw [hv]; rfl
          have f3 : (X.toList == [47]) = false := by rw [hv]; rfl
          have f4 : (X.toList == [37]) = false := by rw [hv]; rfl
          have f5 : (X.toList == [38]) = false := by rw [hv]; rfl
          have f6 : (X.toList == [124]) = false := by rw [hv]; rfl
          have f7 : (X.toList == [94]) = false := by rw [hv]; rfl
          have f8 : (X.toList == [60, 60]) = false := by rw [hv]; rfl
          have f9 : (X.toList == [62, 62]) = false := by rw [hv]; rfl
          have f10 : (X.toList == [38, 94]) = false := by rw [hv]; rfl
          have f11 : (X.toList == [43, 61]) = false := by rw [hv]; rfl
          have f12 : (X.toList == [45, 61]) = false := by rw [hv]; rfl
          have f13 : (X.toList == [42, 61]) = false := by rw [hv]; rfl
          have f14 : (X.toList == [47, 61]) = false := by rw [hv]; rfl
          have f15 : (X.toList == [37, 61]) = false := by rw [hv]; rfl
          have f16 : (X.toList == [38, 61]) = false := by rw [hv]; rfl
          have f17 : (X.toList == [124, 61]) = false := by rw [hv]; rfl
          have f18 : (X.toList == [94, 61]) = false := by rw [hv]; rfl
          have f19 : (X.toList == [60, 60, 61]) = false := by rw [hv]; rfl
          have f20 : (X.toList == [62, 62, 61]) = false := by rw [hv]; rfl
          have f21 : (X.toList == [38, 94, 61]) = false := by rw [hv]; rfl
          have f22 : (X.toList == [38, 38]) = false := by rw [hv]; rfl
          have f23 : (X.toList == [124, 124]) = false := by rw [hv]; rfl
          have f24 : (X.toList == [60, 45]) = false := by rw [hv]; rfl
          have f25 : (X.toList == [43, 43]) = false := by rw [hv]; rfl
          have f26 : (X.toList == [45, 45]) = false := by rw [hv]; rfl
          have f27 : (X.toList == [61, 61]) = false := by rw [hv]; rfl
          have f28 : (X.toList == [60]) = false := by rw [hv]; rfl
          have f29 : (X.toList == [62]) = false := by rw [hv]; rfl
          have f30 : (X.toList == [61]) = true := by rw [hv]; rfl
          have f31 : (X.toList == [33]) = false := by rw [hv]; rfl
          have f32 : (X.toList == [126]) = false := by rw [hv]; rfl
          have f33 : (X.toList == [33, 61]) = false := by rw [hv]; rfl
          have f34 : (X.toList == [60, 61]) = false := by rw [hv]; rfl
          have f35 : (X.toList == [62, 61]) = false := by rw [hv]; rfl
          have f36 : (X.toList == [58, 61]) = false := by rw [hv]; rfl
          have f37 : (X.toList == [46, 46, 46]) = false := by rw [hv]; rfl
          have f38 : (X.toList == [40]) = false := by rw [hv]; rfl
          have f39 : (X.toList == [41]) = false := by rw [hv]; rfl
          have f40 : (X.toList == [91]) = false := by rw [hv]; rfl
          have f41 : (X.toList == [93]) = false := by rw [hv]; rfl
          have f42 : (X.toList == [123]) = false := by rw [hv]; rfl
          have f43 : (X.toList == [125]) = false := by rw [hv]; rfl
          have f44 : (X.toList == [44]) = false := by rw [hv]; rfl
          have f45 : (X.toList == [46]) = false := by rw [hv]; rfl
          have f46 : (X.toList == [58]) = false := by rw [hv]; rfl
          clear hXl hmem hv
          go_wp2
          rw [Exit.noGoto_ret]
          go_ret2
          exact ⟨by rw [HS.out]; rfl, rfl⟩
        · have hv : (s.data.toList.drop a).take n = [33] := by simpa using hmem
          rw [← hXl] at hv
          have f0 : (X.toList == [43]) = false := by rw [hv]; rfl
          have f1 : (X.toList == [45]) = false := by rw [hv]; rfl
          have f2 : (X.toList == [42]) = false := by rw [hv]; rfl
          have f3 : (X.toList == [47]) = false := by rw [hv]; rfl
          have f4 : (X.toList == [37]) = false := by rw [hv]; rfl
          have f5 : (X.toList == [38]) = false := by rw [hv]; rfl
          have f6 : (X.toList == [124]) = false := by rw [hv]; rfl
          have f7 : (X.toList == [94]) = false := by rw [hv]; rfl
          have f8 : (X.toList == [60, 60]) = false := by rw [hv]; rfl
          have f9 : (X.toList == [62, 62]) = false := by rw [hv]; rfl
          have f10 : (X.toList == [38, 94]) = false := by rw [hv]; rfl
          have f11 : (X.toList == [43, 61]) = false := by rw [hv]; rfl
          have f12 : (X.toList == [45, 61]) = false := by rw [hv]; rfl
          have f13 : (X.toList == [42, 61]) = false := by rw [hv]; rfl
          have f14 : (X.toList == [47, 61]) = false := by rw [hv]; rfl
          have f15 : (X.toList == [37, 61]) = false := by rw [hv]; rfl
          have f16 : (X.toList == [38, 61]) = false := by rw [hv]; rfl
          have f17 : (X.toList == [124, 61]) = false := by rw [hv]; rfl
          have f18 : (X.toList == [94, 61]) = false := by rw [hv]; rfl
          have f19 : (X.toList == [60, 60, 61]) = false := by rw [hv]; rfl
          have f20 : (X.toList == [62, 62, 61]) = false := by rw [hv]; rfl
          have f21 : (X.toList == [38, 94, 61]) = false := by rw [hv]; rfl
          have f22 : (X.toList == [38, 38]) = false := by rw [hv]; rfl
          have f23 : (X.toList == [124, 124]) = false := by rw [hv]; rfl
          have f24 : (X.toList == [60, 45]) = false := by rw [hv]; rfl
          have f25 : (X.toList == [43, 43]) = false := by rw [hv]; rfl
          have f26 : (X.toList == [45, 45]) = false := by rw [hv]; rfl
          have f27 : (X.toList == [61, 61]) = false := by rw [hv]; rfl
          have f28 : (X.toList == [60]) = false := by rw [hv]; rfl
          have f29 : (X.toList == [62]) = false := by rw [hv]; rfl
          have f30 : (X.toList == [61]) = false := by rw [hv]; rfl
          have f31 : (X.toList == [33]) = true := by rw [hv]; rfl
          have f32 : (X.toList == [126]) = false := by rw [hv]; rfl
          have f33 : (X.toList == [33, 61]) = false := by rw [hv]; rfl
          have f34 : (X.toList == [60, 61]) = false := by rw [hv]; rfl
          have f35 : (X.toList == [62, 61]) = false := by rw [hv]; rfl
          have f36 : (X.toList == [58, 61]) = false := by rw [hv]; rfl
          have f37 : (X.toList == [46, 46, 46]) = false := by rw [hv]; rfl
          have f38 : (X.toList == [40]) = false := by rw [hv]; rfl
          have f39 : (X.toList == [41]) = false := by rw [hv]; rfl
          have f40 : (X.toList == [91]) = false := by rw [hv]; rfl
          have f41 : (X.toList == [93]) = false := by rw [hv]; rfl
          have f42 : (X.toList == [123]) = false := by rw [hv]; rfl
          have f43 : (X.toList == [125]) = false := by rw [hv]; rfl
          have f44 : (X.toList == [44]) = false := by rw [hv]; rfl
          have f45 : (X.toList == [46]) = false := by rw [hv]; rfl
          have f46 : (X.toList == [58]) = false := by rw [hv]; rfl
          clear hXl hmem hv
          go_wp2
          rw [Exit.noGoto_ret]
          go_ret2
          exact ⟨by rw [HS.out]; rfl, rfl⟩
        · have hv : (s.data.toList.drop a).take n = [126] := by simpa using hmem
          rw [← hXl] at hv
          have f0 : (X.toList == [43]) = false := by rw [hv]; rfl
          have f1 : (X.toList == [45]) = false := by rw [hv]; rfl
          have f2 : (X.toList == [42]) = false := by rw [hv]; rfl
          have f3 : (X.toList == [47]) = false := by rw [hv]; rfl
          have f4 : (X.toList == [37]) = false := by rw [hv]; rfl
          have f5 : (X.toList == [38]) = false := by rw [hv]; rfl
          have f6 : (X.toList == [124]) = false := by rw [hv]; rfl
          have f7 : (X.toList == [94]) = false := by rw [hv]; rfl
          have f8 : (X.toList == [60, 60]) = false := by rw [hv]; rfl
          have f9 : (X.toList == [62, 62]) = false := by rw [hv]; rfl
          have f10 : (X.toList == [38, 94]) = false := by rw [hv]; rfl
          have f11 : (X.toList == [43, 61]) = false := by rw [hv]; rfl
          have f12 : (X.toList == [45, 61]) = false := by rw [hv]; rfl
          have f13 : (X.toList == [42, 61]) = false := by rw [hv]; rfl
          have f14 : (X.toList == [47, 61]) = false := by rw [hv]; rfl
          have f15 : (X.toList == [37, 61]) = false := by rw [hv]; rfl
          have f16 : (X.toList == [38, 61]) = false := by rw [hv]; rfl
          have f17 : (X.toList == [124, 61]) = false := by rw [hv]; rfl
          have f18 : (X.toList == [94, 61]) = false := by rw [hv]; rfl
          have f19 : (X.toList == [60, 60, 61]) = false := by rw [hv]; rfl
          have f20 : (X.toList == [62, 62, 61]) = false := by rw [hv]; rfl
          have f21 : (X.toList == [38, 94, 61]) = false := by rw [hv]; rfl
          have f22 : (X.toList == [38, 38]) = false := by rw [hv]; rfl
          have f23 : (X.toList == [124, 124]) = false := by rw [hv]; rfl
          have f24 : (X.toList == [60, 45]) = false := by rw [hv]; rfl
          have f25 : (X.toList == [43, 43]) = false := by rw [hv]; rfl
          have f26 : (X.toList == [45, 45]) = false := by rw [hv]; rfl
          have f27 : (X.toList == [61, 61]) = false := by rw [hv]; rfl
          have f28 : (X.toList == [60]) = false := by rw [hv]; rfl
          have f29 : (X.toList == [62]) = false := by rw [hv]; rfl
          have f30 : (X.toList == [61]) = false := by rw [hv]; rfl
          have f31 : (X.toList == [33]) = false := by rw [hv]; rfl
          have f32 : (X.toList == [126]) = true := by rw [hv]; rfl
          have f33 : (X.toList == [33, 61]) = false := by rw [hv]; rfl
          have f34 : (X.toList == [60, 61]) = false := by rw [hv]; rfl
          have f35 : (X.toList == [62, 61]) = false := by rw [hv]; rfl
          have f36 : (X.toList == [58, 61]) = false := by rw [hv]; rfl
          have f37 : (X.toList == [46, 46, 46]) = false := by rw [hv]; rfl
          have f38 : (X.toList == [40]) = false := by rw [hv]; rfl
          have f39 : (X.toList == [41]) = false := by rw [hv]; rfl
          have f40 : (X.toList == [91]) = false := by rw [hv]; rfl
          have f41 : (X.toList == [93]) = false := by rw [hv]; rfl
          have f42 : (X.toList == [123]) = false := by rw [hv]; rfl
          have f43 : (X.toList == [125]) = false := by rw [hv]; rfl
          have f44 : (X.toList == [44]) = false := by rw [hv]; rfl
          have f45 : (X.toList == [46]) = false := by rw [hv]; rfl
          have f46 : (X.toList == [58]) = false := by rw [hv]; rfl
          clear hXl hmem hv
          go_wp2
          rw [Exit.noGoto_ret]
          go_ret2
          exact ⟨by rw [HS.out]; rfl, rfl⟩
        · have hv : (s.data.toList.drop a).take n = [33, 61] := by simpa using hmem
          rw [← hXl] at hv
          have f0 : (X.toList == [43]) = false := by rw [hv]; rfl
          have f1 : (X.toList == [45]) = false := by rw [hv]; rfl
          have f2 : (X.toList == [42]) = false := by rw [hv]; rfl
          have f3 : (X.toList == [47]) = false := by rw [hv]; rfl
          have f4 : (X.toList == [37]) = false := by rw [hv]; rfl
          have f5 : (X.toList == [38]) = false := by rw [hv]; rfl
          have f6 : (X.toList == [124]) = false := by rw [hv]; rfl
          have f7 : (X.toList == [94]) = false := by rw [hv]; rfl
          have f8 : (X.toList == [60, 60]) = false := by rw [hv]; rfl
          have f9 : (X.toList == [62, 62]) = false := by rw [hv]; rfl
          have f10 : (X.toList == [38, 94]) = false := by rw [hv]; rfl
          have f11 : (X.toList == [43, 61]) = false := by rw [hv]; rfl
          have f12 : (X.toList == [45, 61]) = false := by rw [hv]; rfl
          have f13 : (X.toList == [42, 61]) = false := by rw [hv]; rfl
          have f14 : (X.toList == [47, 61]) = false := by rw [hv]; rfl
          have f15 : (X.toList == [37, 61]) = false := by rw [hv]; rfl
          have f16 : (X.toList == [38, 61]) = false := by rw [hv]; rfl
          have f17 : (X.toList == [124, 61]) = false := by rw [hv]; rfl
          have f18 : (X.toList == [94, 61]) = false := by rw [hv]; rfl
          have f19 : (X.toList == [60, 60, 61]) = false := by rw [hv]; rfl
          have f20 : (X.toList == [62, 62, 61]) = false := by rw [hv]; rfl
          have f21 : (X.toList == [38, 94, 61]) = false := by rw [hv]; rfl
          have f22 : (X.toList == [38, 38]) = false := by rw [hv]; rfl
          have f23 : (X.toList == [124, 124]) = false := by rw [hv]; rfl
          have f24 : (X.toList == [60, 45]) = false := by rw [hv]; rfl
          have f25 : (X.toList == [43, 43]) = false := by rw [hv]; rfl
          have f26 : (X.toList == [45, 45]) = false := by rw [hv]; rfl
          have f27 : (X.toList == [61, 61]) = false := by rw [hv]; rfl
          have f28 : (X.toList == [60]) = false := by rw [hv]; rfl
          have f29 : (X.toList == [62]) = false := by rw [hv]; rfl
          have f30 : (X.toList == [61]) = false := by rw [hv]; rfl
          have f31 : (X.toList == [33]) = false := by rw [hv]; rfl
          have f32 : (X.toList == [126]) = false := by rw [hv]; rfl
          have f33 : (X.toList == [33, 61]) = true := by rw [hv]; rfl
          have f34 : (X.toList == [60, 61]) = false := by rw [hv]; rfl
          have f35 : (X.toList == [62, 61]) = false := by rw [hv]; rfl
          have f36 : (X.toList == [58, 61]) = false := by rw [hv]; rfl
          have f37 : (X.toList == [46, 46, 46]) = false := by rw [hv]; rfl
          have f38 : (X.toList == [40]) = false := by rw [hv]; rfl
          have f39 : (X.toList == [41]) = false := by rw [hv]; rfl
          have f40 : (X.toList == [91]) = false := by rw [hv]; rfl
          have f41 : (X.toList == [93]) = false := by rw [hv]; rfl
          have f42 : (X.toList == [123]) = false := by rw [hv]; rfl
          have f43 : (X.toList == [125]) = false := by rw [hv]; rfl
          have f44 : (X.toList == [44]) = false := by rw [hv]; rfl
          have f45 : (X.toList == [46]) = false := by rw [hv]; rfl
          have f46 : (X.toList == [58]) = false := by rw [hv]; rfl
          clear hXl hmem hv
          go_wp2
          rw [Exit.noGoto_ret]
          go_ret2
          exact ⟨by rw [HS.out]; rfl, rfl⟩
        · have hv : (s.data.toList.drop a).take n = [60, 61] := by simpa using hmem
          rw [← hXl] at hv
          have f0 : (X.toList == [43]) = false := by rw [hv]; rfl
          have f1 : (X.toList == [45]) = false := by rw [hv]; rfl
          have f2 : (X.toList == [42]) = false := by rw [hv]; rfl
          have f3 : (X.toList == [47]) = false := by rw [hv]; rfl
          have f4 : (X.toList == [37]) = false := by rw [hv]; rfl
          have f5 : (X.toList == [38]) = false := by rw [hv]; rfl
          have f6 : (X.toList == [124]) = false := by rw [hv]; rfl
          have f7 : (X.toList == [94]) = false := by rw [hv]; rfl
          have f8 : (X.toList == [60, 60]) = false := by rw [hv]; rfl
          have f9 : (X.toList == [62, 62]) = false := by rw [hv]; rfl
          have f10 : (X.toList == [38, 94]) = false := by rw [hv]; rfl
          have f11 : (X.toList == [43, 61]) = false := by rw [hv]; rfl
          have f12 : (X.toList == [45, 61]) = false := by rw [hv]; rfl
          have f13 : (X.toList == [42, 61]) = false := by rw [hv]; rfl
          have f14 : (X.toList == [47, 61]) = false := by rw [hv]; rfl
          have f15 : (X.toList == [37, 61]) = false := by rw [hv]; rfl
          have f16 : (X.toList == [38, 61]) = false := by rw [hv]; rfl
          have f17 : (X.toList == [124, 61]) = false := by rw [hv]; rfl
          have f18 : (X.toList == [94, 61]) = false := by rw [hv]; rfl
          have f19 : (X.toList == [60, 60, 61]) = false := by rw [hv]; rfl
          have f20 : (X.toList == [62, 62, 61]) = false := by rw [hv]; rfl
          have f21 : (X.toList == [38, 94, 61]) = false := by rw [hv]; rfl
          have f22 : (X.toList == [38, 38]) = false := by rw [hv]; rfl
          have f23 : (X.toList == [124, 124]) = false := by rw [hv]; rfl
          have f24 : (X.toList == [60, 45]) = false := by rw [hv]; rfl
          have f25 : (X.toList == [43, 43]) = false := by rw [hv]; rfl
          have f26 : (X.toList == [45, 45]) = false := by rw [hv]; rfl
          have f27 : (X.toList == [61, 61]) = false := by rw [hv]; rfl
          have f28 : (X.toList == [60]) = false := by rw [hv]; rfl
          have f29 : (X.toList == [62]) = false := by rw [hv]; rfl
          have f30 : (X.toList == [61]) = false := by rw [hv]; rfl
          have f31 : (X.toList == [33]) = false := by rw [hv]; rfl
          have f32 : (X.toList == [126]) = false := by rw [hv]; rfl
          have f33 : (X.toList == [33, 61]) = false := by rw [hv]; rfl
          have f34 : (X.toList == [60, 61]) = true := by rw [hv]; rfl
          have f35 : (X.toList == [62, 61]) = false := by rw [hv]; rfl
          have f36 : (X.toList == [58, 61]) = false := by rw [hv]; rfl
          have f37 : (X.toList == [46, 46, 46]) = false := by rw [hv]; rfl
          have f38 : (X.toList == [40]) = false := by rw [hv]; rfl
          have f39 : (X.toList == [41]) = false := by rw [hv]; rfl
          have f40 : (X.toList == [91]) = false := by rw [hv]; rfl
          have f41 : (X.toList == [93]) = false := by rw [hv]; rfl
          have f42 : (X.toList == [123]) = false := by rw [hv]; rfl
          have f43 : (X.toList == [125]) = false := by rw [hv]; rfl
          have f44 : (X.toList == [44]) = false := by rw [hv]; rfl
          have f45 : (X.toList == [46]) = false := by rw [hv]; rfl
          have f46 : (X.toList == [58]) = false := by rw [hv]; rfl
          clear hXl hmem hv
          go_wp2
          rw [Exit.noGoto_ret]
          go_ret2
          exact ⟨by rw [HS.out]; rfl, rfl⟩
        · have hv : (s.data.toList.drop a).take n = [62, 61] := by simpa using hmem
          rw [← hXl] at hv
          have f0 : (X.toList == [43]) = false := by rw [hv]; rfl
          have f1 : (X.toList == [45]) = false := by rw [hv]; rfl
          have f2 : (X.toList == [42]) = false := by rw [hv]; rfl
          have f3 : (X.toList == [47]) = false := by rw [hv]; rfl
          have f4 : (X.toList == [37]) = false := by rw [hv]; rfl
          have f5 : (X.toList == [38]) = false := by rw [hv]; rfl
          have f6 : (X.toList == [124]) = false := by rw [hv]; rfl
          have f7 : (X.toList == [94]) = false := by rw [hv]; rfl
          have f8 : (X.toList == [60, 60]) = false := by rw [hv]; rfl
          have f9 : (X.toList == [62, 62]) = false := by rw [hv]; rfl
          have f10 : (X.toList == [38, 94]) = false := by rw [hv]; rfl
          have f11 : (X.toList == [43, 61]) = false := by rw [hv]; rfl
          have f12 : (X.toList == [45, 61]) = false := by rw [hv]; rfl
          have f13 : (X.toList == [42, 61]) = false := by rw [hv]; rfl
          have f14 : (X.toList == [47, 61]) = false := by rw [hv]; rfl
          have f15 : (X.toList == [37, 61]) = false := by rw [hv]; rfl
          have f16 : (X.toList == [38, 61]) = false := by rw [hv]; rfl
          have f17 : (X.toList == [124, 61]) = false := by rw [hv]; rfl
          have f18 : (X.toList == [94, 61]) = false := by rw [hv]; rfl
          have f19 : (X.toList == [60, 60, 61]) = false := by rw [hv]; rfl
          have f20 : (X.toList == [62, 62, 61]) = false := by rw [hv]; rfl
          have f21 : (X.toList == [38, 94, 61]) = false := by rw [hv]; rfl
          have f22 : (X.toList == [38, 38]) = false := by rw [hv]; rfl
          have f23 : (X.toList == [124, 124]) = false := by rw [hv]; rfl
          have f24 : (X.toList == [60, 45]) = false := by rw [hv]; rfl
          have f25 : (X.toList == [43, 43]) = false := by rw [hv]; rfl
          have f26 : (X.toList == [45, 45]) = false := by rw [hv]; rfl
          have f27 : (X.toList == [61, 61]) = false := by rw [hv]; rfl
          have f28 : (X.toList == [60]) = false := by rw [hv]; rfl
          have f29 : (X.toList == [62]) = false := by rw [hv]; rfl
          have f30 : (X.toList == [61]) = false := by rw [hv]; rfl
          have f31 : (X.toList == [33]) = false := by rw [hv]; rfl
          have f32 : (X.toList == [126]) = false := by rw [hv]; rfl
          have f33 : (X.toList == [33, 61]) = false := by rw [hv]; rfl
          have f34 : (X.toList == [60, 61]) = false := by rw [hv]; rfl
          have f35 : (X.toList == [62, 61]) = true := by rw [hv]; rfl
          have f36 : (X.toList == [58, 61]) = false := by rw [hv]; rfl
          have f37 : (X.toList == [46, 46, 46]) = false := by rw [hv]; rfl
          have f38 : (X.toList == [40]) = false := by rw [hv]; rfl
          have f39 : (X.toList == [41]) = false := by rw [hv]; rfl
          have f40 : (X.toList == [91]) = false := by rw [hv]; rfl
          have f41 : (X.toList == [93]) = false := by rw [hv]; rfl
          have f42 : (X.toList == [123]) = false := by rw [hv]; rfl
          have f43 : (X.toList == [125]) = false := by rw [hv]; rfl
          have f44 : (X.toList == [44]) = false := by rw [hv]; rfl
          have f45 : (X.toList == [46]) = false := by rw [hv]; rfl
          have f46 : (X.toList == [58]) = false := by rw [hv]; rfl
          clear hXl hmem hv
          go_wp2
          rw [Exit.noGoto_ret]
          go_ret2
          exact ⟨by rw [HS.out]; rfl, rfl⟩
        · have hv : (s.data.toList.drop a).take n = [58, 61] := by simpa using hmem
          rw [← hXl] at hv
          have f0 : (X.toList == [43]) = false := by rw [hv]; rfl
          have f1 : (X.toList == [45]) = false := by rw [hv]; rfl
          have f2 : (X.toList == [42]) = false := by rw [hv]; rfl
          have f3 : (X.toList == [47]) = false := by rw [hv]; rfl
          have f4 : (X.toList == [37]) = false := by rw [hv]; rfl
          have f5 : (X.toList == [38]) = false := by rw [hv]; rfl
          have f6 : (X.toList == [124]) = false := by rw [hv]; rfl
          have f7 : (X.toList == [94]) = false := by rw [hv]; rfl
          have f8 : (X.toList == [60, 60]) = false := by rw [hv]; rfl
          have f9 : (X.toList == [62, 62]) = false := by rw [hv]; rfl
          have f10 : (X.toList == [38, 94]) = false := by rw [hv]; rfl
          have f11 : (X.toList == [43, 61]) = false := by rw [hv]; rfl
          have f12 : (X.toList == [45, 61]) = false := by rw [hv]; rfl
          have f13 : (X.toList == [42, 61]) = false := by rw [hv]; rfl
          have f14 : (X.toList == [47, 61]) = false := by rw [hv]; rfl
          have f15 : (X.toList == [37, 61]) = false := by rw [hv]; rfl
          have f16 : (X.toList == [38, 61]) = false := by rw [hv]; rfl
          have f17 : (X.toList == [124, 61]) = false := by rw [hv]; rfl
          have f18 : (X.toList == [94, 61]) = false := by rw [hv]; rfl
          have f19 : (X.toList == [60, 60, 61]) = false := by rw [hv]; rfl
          have f20 : (X.toList == [62, 62, 61]) = false := by rw [hv]; rfl
          have f21 : (X.toList == [38, 94, 61]) = false := by rw [hv]; rfl
          have f22 : (X.toList == [38, 38]) = false := by rw [hv]; rfl
          have f23 : (X.toList == [124, 124]) = false := by rw [hv]; rfl
          have f24 : (X.toList == [60, 45]) = false := by rw [hv]; rfl
          have f25 : (X.toList == [43, 43]) = false := by rw [hv]; rfl
          have f26 : (X.toList == [45, 45]) = false := by rw [hv]; rfl
          have f27 : (X.toList == [61, 61]) = false := by rw [hv]; rfl
          have f28 : (X.toList == [60]) = false := by rw [hv]; rfl
          have f29 : (X.toList == [62]) = false := by rw [hv]; rfl
          have f30 : (X.toList == [61]) = false := by rw [hv]; rfl
          have f31 : (X.toList == [33]) = false := by rw [hv]; rfl
          have f32 : (X.toList == [126]) = false := by rw [hv]; rfl
          have f33 : (X.toList == [33, 61]) = false := by rw [hv]; rfl
          have f34 : (X.toList == [60, 61]) = false := by rw [hv]; rfl
          have f35 : (X.toList == [62, 61]) = false := by rw [hv]; rfl
          have f36 : (X.toList == [58, 61]) = true := by rw [hv]; rfl
          have f37 : (X.toList == [46, 46, 46]) = false := by rw [hv]; rfl
          have f38 : (X.toList == [40]) = false := by rw [hv]; rfl
          have f39 : (X.toList == [41]) = false := by rw [hv]; rfl
          have f40 : (X.toList == [91]) = false := by rw [hv]; rfl
          have f41 : (X.toList == [93]) = false := by rw [hv]; rfl
          have f42 : (X.toList == [123]) = false := by rw [hv]; rfl
          have f43 : (X.toList == [125]) = false := by rw [hv]; rfl
          have f44 : (X.toList == [44]) = false := by rw [hv]; rfl
          have f45 : (X.toList == [46]) = false := by rw [hv]; rfl
          have f46 : (X.toList == [58]) = false := by rw [hv]; rfl
          clear hXl hmem hv
          go_wp2
          rw [Exit.noGoto_ret]
          go_ret2
          exact ⟨by rw [HS.out]; rfl, rfl⟩
        · have hv : (s.data.toList.drop a).take n = [46, 46, 46] := by simpa using hmem
          rw [← hXl] at hv
          have f0 : (X.toList == [43]) = false := by rw [hv]; rfl
          have f1 : (X.toList == [45]) = false := by rw [hv]; rfl
          have f2 : (X.toList == [42]) = false := by rw [hv]; rfl
          have f3 : (X.toList == [47]) = false := by rw [hv]; rfl
          have f4 : (X.toList == [37]) = false := by rw [hv]; rfl
          have f5 : (X.toList == [38]) = false := by rw [hv]; rfl
          have f6 : (X.toList == [124]) = false := by rw [hv]; rfl
          have f7 : (X.toList == [94]) = false := by rw [hv]; rfl
          have f8 : (X.toList == [60, 60]) = false := by rw [hv]; rfl
          have f9 : (X.toList == [62, 62]) = false := by rw [hv]; rfl
          have f10 : (X.toList == [38, 94]) = false := by rw [hv]; rfl
          have f11 : (X.toList == [43, 61]) = false := by rw [hv]; rfl
          have f12 : (X.toList == [45, 61]) = false := by rw [hv]; rfl
          have f13 : (X.toList == [42, 61]) = false := by rw [hv]; rfl
          have f14 : (X.toList == [47, 61]) = false := by rw [hv]; rfl
          have f15 : (X.toList == [37, 61]) = false := by rw [hv]; rfl
          have f16 : (X.toList == [38, 61]) = false := by rw [hv]; rfl
          have f17 : (X.toList == [124, 61]) = false := by rw [hv]; rfl
          have f18 : (X.toList == [94, 61]) = false := by rw [hv]; rfl
          have f19 : (X.toList == [60, 60, 61]) = false := by rw [hv]; rfl
          have f20 : (X.toList == [62, 62, 61]) = false := by rw [hv]; rfl
          have f21 : (X.toList == [38, 94, 61]) = false := by rw [hv]; rfl
          have f22 : (X.toList == [38, 38]) = false := by rw [hv]; rfl
          have f23 : (X.toList == [124, 124]) = false := by rw [hv]; rfl
          have f24 : (X.toList == [60, 45]) = false := by rw [hv]; rfl
          have f25 : (X.toList == [43, 43]) = false := by rw [hv]; rfl
          have f26 : (X.toList == [45, 45]) = false := by rw [hv]; rfl
          have f27 : (X.toList == [61, 61]) = false := by rw [hv]; rfl
          have f28 : (X.toList == [60]) = false := by rw [hv]; rfl
          have f29 : (X.toList == [62]) = false := by rw [hv]; rfl
          have f30 : (X.toList == [61]) = false := by rw [hv]; rfl
          have f31 : (X.toList == [33]) = false := by rw [hv]; rfl
          have f32 : (X.toList == [126]) = false := by rw [hv]; rfl
          have f33 : (X.toList == [33, 61]) = false := by rw [hv]; rfl
          have f34 : (X.toList == [60, 61]) = false := by rw [hv]; rfl
          have f35 : (X.toList == [62, 61]) = false := by rw [hv]; rfl
          have f36 : (X.toList == [58, 61]) = false := by rw [hv]; rfl
          have f37 : (X.toList == [46, 46, 46]) = true := by rw [hv]; rfl
          have f38 : (X.toList == [40]) = false := by rw [hv]; rfl
          have f39 : (X.toList == [41]) = false := by rw [hv]; rfl
          have f40 : (X.toList == [91]) = false := by rw [hv]; rfl
          have f41 : (X.toList == [93]) = false := by rw [hv]; rfl
          have f42 : (X.toList == [123]) = false := by rw [hv]; rfl
          have f43 : (X.toList == [125]) = false := by rw [hv]; rfl
          have f44 : (X.toList == [44]) = false := by rw [hv]; rfl
          have f45 : (X.toList == [46]) = false := by rw [hv]; rfl
          have f46 : (X.toList == [58]) = false := by rw [hv]; rfl
          clear hXl hmem hv
          go_wp2
          rw [Exit.noGoto_ret]
          go_ret2
          exact ⟨by rw [HS.out]; rfl, rfl⟩
        · have hv : (s.data.toList.drop a).take n = [40] := by simpa using hmem
          rw [← hXl] at hv
          have f0 : (X.toList == [43]) = false := by rw [hv]; rfl
          have f1 : (X.toList == [45]) = false := by rw [hv]; rfl
          have f2 : (X.toList == [42]) = false := by rw [hv]; rfl
          have f3 : (X.toList == [47]) = false := by rw [hv]; rfl
          have f4 : (X.toList == [37]) = false := by rw [hv]; rfl
          have f5 : (X.toList == [38]) = false := by rw [hv]; rfl
          have f6 : (X.toList == [124]) = false := by rw [hv]; rfl
          have f7 : (X.toList == [94]) = false := by rw [hv]; rfl
          have f8 : (X.toList == [60, 60]) = false := by rw [hv]; rfl
          have f9 : (X.toList == [62, 62]) = false := by rw [hv]; rfl
          have f10 : (X.toList == [38, 94]) = false := by rw [hv]; rfl
          have f11 : (X.toList == [43, 61]) = false := by rw [hv]; rfl
          have f12 : (X.toList == [45, 61]) = false := by rw [hv]; rfl
          have f13 : (X.toList == [42, 61]) = false := by rw [hv]; rfl
          have f14 : (X.toList == [47, 61]) = false := by rw [hv]; rfl
          have f15 : (X.toList == [37, 61]) = false := by rw [hv]; rfl
          have f16 : (X.toList == [38, 61]) = false := by rw [hv]; rfl
          have f17 : (X.toList == [124, 61]) = false := by rw [hv]; rfl
          have f18 : (X.toList == [94, 61]) = false := by rw [hv]; rfl
          have f19 : (X.toList == [60, 60, 61]) = false := by rw [hv]; rfl
          have f20 : (X.toList == [62, 62, 61]) = false := by rw [hv]; rfl
          have f21 : (X.toList == [38, 94, 61]) = false := by rw [hv]; rfl
          have f22 : (X.toList == [38, 38]) = false := by rw [hv]; rfl
          have f23 : (X.toList == [124, 124]) = false := by rw [hv]; rfl
          have f24 : (X.toList == [60, 45]) = false := by rw [hv]; rfl
          have f25 : (X.toList == [43, 43]) = false := by rw [hv]; rfl
          have f26 : (X.toList == [45, 45]) = false := by rw [hv]; rfl
          have f27 : (X.toList == [61, 61]) = false := by rw [hv]; rfl
          have f28 : (X.toList == [60]) = false := by rw [hv]; rfl
          have f29 : (X.toList == [62]) = false := by rw [hv]; rfl
          have f30 : (X.toList == [61]) = false := by rw [hv]; rfl
          have f31 : (X.toList == [33]) = false := by rw [hv]; rfl
          have f32 : (X.toList == [126]) = false := by rw [hv]; rfl
          have f33 : (X.toList == [33, 61]) = false := by rw [hv]; rfl
          have f34 : (X.toList == [60, 61]) = false := by rw [hv]; rfl
          have f35 : (X.toList == [62, 61]) = false := by rw [hv]; rfl
          have f36 : (X.toList == [58, 61]) = false := by rw [hv]; rfl
          have f37 : (X.toList == [46, 46, 46]) = false := by rw [hv]; rfl
          have f38 : (X.toList == [40]) = true := by rw [hv]; rfl
          have f39 : (X.toList == [41]) = false := by rw [hv]; rfl
          have f40 : (X.toList == [91]) = false := by rw [hv]; rfl
          have f41 : (X.toList == [93]) = false := by rw [hv]; rfl
          have f42 : (X.toList == [123]) = false := by rw [hv]; rfl
          have f43 : (X.toList == [125]) = false := by rw [hv]; rfl
          have f44 : (X.toList == [44]) = false := by rw [hv]; rfl
          have f45 : (X.toList == [46]) = false := by rw [hv]; rfl
          have f46 : (X.toList == [58]) = false := by rw [hv]; rfl
          clear hXl hmem hv
          go_wp2
          rw [Exit.noGoto_ret]
          go_ret2
          exact ⟨by rw [HS.out]; rfl, rfl⟩
        · have hv : (s.data.toList.drop a).take n = [41] := by simpa using hmem
          rw [← hXl] at hv
          have f0 : (X.toList == [43]) = false := by rw [hv]; rfl
          have f1 : (X.toList == [45]) = false := by rw [hv]; rfl
          have f2 : (X.toList == [42]) = false := by rw [hv]; rfl
          have f3 : (X.toList == [47]) = false := by rw [hv]; rfl
          have f4 : (X.toList == [37]) = false := by rw [hv]; rfl
          have f5 : (X.toList == [38]) = false := by rw [hv]; rfl
          have f6 : (X.toList == [124]) = false := by rw [hv]; rfl
          have f7 : (X.toList == [94]) = false := by rw [hv]; rfl
          have f8 : (X.toList == [60, 60]) = false := by rw [hv]; rfl
          have f9 : (X.toList == [62, 62]) = false := by rw [hv]; rfl
          have f10 : (X.toList == [38, 94]) = false := by rw [hv]; rfl
          have f11 : (X.toList == [43, 61]) = false := by rw [hv]; rfl
          have f12 : (X.toList == [45, 61]) = false := by rw [hv]; rfl
          have f13 : (X.toList == [42, 61]) = false := by rw [hv]; rfl
          have f14 : (X.toList == [47, 61]) = false := by rw [hv]; rfl
          have f15 : (X.toList == [37, 61]) = false := by rw [hv]; rfl
          have f16 : (X.toList == [38, 61]) = false := by rw [hv]; rfl
          have f17 : (X.toList == [124, 61]) = false := by rw [hv]; rfl
          have f18 : (X.toList == [94, 61]) = false := by rw [hv]; rfl
          have f19 : (X.toList == [60, 60, 61]) = false := by rw [hv]; rfl
          have f20 : (X.toList == [62, 62, 61]) = false := by rw [hv]; rfl
          have f21 : (X.toList == [38, 94, 61]) = false := by rw [hv]; rfl
          have f22 : (X.toList == [38, 38]) = false := by rw [hv]; rfl
          have f23 : (X.toList == [124, 124]) = false := by rw [hv]; rfl
          have f24 : (X.toList == [60, 45]) = false := by rw [hv]; rfl
          have f25 : (X.toList == [43, 43]) = false := by rw [hv]; rfl
          have f26 : (X.toList == [45, 45]) = false := by rw [hv]; rfl
          have f27 : (X.toList == [61, 61]) = false := by rw [hv]; rfl
          have f28 : (X.toList == [60]) = false := by rw [hv]; rfl
          have f29 : (X.toList == [62]) = false := by rw [hv]; rfl
          have f30 : (X.toList == [61]) = false := by rw [hv]; rfl
          have f31 : (X.toList == [33]) = false := by rw [hv]; rfl
          have f32 : (X.toList == [126]) = false := by rw [hv]; rfl
          have f33 : (X.toList == [33, 61]) = false := by rw [hv]; rfl
          have f34 : (X.toList == [60, 61]) = false := by rw [hv]; rfl
          have f35 : (X.toList == [62, 61]) = false := by rw [hv]; rfl
          have f36 : (X.toList == [58, 61]) = false := by rw [hv]; rfl
          have f37 : (X.toList == [46, 46, 46]) = false := by rw [hv]; rfl
          have f38 : (X.toList == [40]) = false := by rw [hv]; rfl
          have f39 : (X.toList == [41]) = true := by rw [hv]; rfl
          have f40 : (X.toList == [91]) = false := by rw [hv]; rfl
          have f41 : (X.toList == [93]) = false := by rw [hv]; rfl
          have f42 : (X.toList == [123]) = false := by rw [hv]; rfl
          have f43 : (X.toList == [125]) = false := by rw [hv]; rfl
          have f44 : (X.toList == [44]) = false := by rw [hv]; rfl
          have f45 : (X.toList == [46]) = false := by rw [hv]; rfl
          have f46 : (X.toList == [58]) = false := by rw [hv]; rfl
          clear hXl hmem hv
          go_wp2
          rw [Exit.noGoto_ret]
          go_ret2
          exact ⟨by rw [HS.out]; rfl, rfl⟩
        · have hv : (s.data.toList.drop a).take n = [91] := by simpa using hmem
          rw [← hXl] at hv
          have f0 : (X.toList == [43]) = false := by rw [hv]; rfl
          have f1 : (X.toList == [45]) = false := by rw [hv]; rfl
          have f2 : (X.toList == [42]) = false := by rw [hv]; rfl
          have f3 : (X.toList == [47]) = false := by rw [hv]; rfl
          have f4 : (X.toList == [37]) = false := by rw [hv]; rfl
          have f5 : (X.toList == [38]) = false := by rw [hv]; rfl
          have f6 : (X.toList == [124]) = false := by rw [hv]; rfl
          have f7 : (X.toList == [94]) = false := by rw [hv]; rfl
          have f8 : (X.toList == [60, 60]) = false := by rw [hv]; rfl
          have f9 : (X.toList == [62, 62]) = false := by rw [hv]; rfl
          have f10 : (X.toList == [38, 94]) = false := by rw [hv]; rfl
          have f11 : (X.toList == [43, 61]) = false := by rw [hv]; rfl
          have f12 : (X.toList == [45, 61]) = false := by rw [hv]; rfl
          have f13 : (X.toList == [42, 61]) = false := by rw [hv]; rfl
          have f14 : (X.toList == [47, 61]) = false := by rw [hv]; rfl
          have f15 : (X.toList == [37, 61]) = false := by rw [hv]; rfl
          have f16 : (X.toList == [38, 61]) = false := by rw [hv]; rfl
          have f17 : (X.toList == [124, 61]) = false := by rw [hv]; rfl
          have f18 : (X.toList == [94, 61]) = false := by rw [hv]; rfl
          have f19 : (X.toList == [60, 60, 61]) = false := by rw [hv]; rfl
          have f20 : (X.toList == [62, 62, 61]) = false := by rw [hv]; rfl
          have f21 : (X.toList == [38, 94, 61]) = false := by rw [hv]; rfl
          have f22 : (X.toList == [38, 38]) = false := by rw [hv]; rfl
          have f23 : (X.toList == [124, 124]) = false := by rw [hv]; rfl
          have f24 : (X.toList == [60, 45]) = false := by rw [hv]; rfl
          have f25 : (X.toList == [43, 43]) = false := by rw [hv]; rfl
          have f26 : (X.toList == [45, 45]) = false := by rw [hv]; rfl
          have f27 : (X.toList == [61, 61]) = false := by rw [hv]; rfl
          have f28 : (X.toList == [60]) = false := by rw [hv]; rfl
          have f29 : (X.toList == [62]) = false := by rw [hv]; rfl
          have f30 : (X.toList == [61]) = false := by rw [hv]; rfl
          have f31 : (X.toList == [33]) = false := by rw [hv]; rfl
          have f32 : (X.toList == [126]) = false := by rw [hv]; rfl
          have f33 : (X.toList == [33, 61]) = false := by rw [hv]; rfl
          have f34 : (X.toList == [60, 61]) = false := by rw [hv]; rfl
          have f35 : (X.toList == [62, 61]) = false := by rw [hv]; rfl
          have f36 : (X.toList == [58, 61]) = false := by rw [hv]; rfl
          have f37 : (X.toList == [46, 46, 46]) = false := by rw [hv]; rfl
          have f38 : (X.toList == [40]) = false := by rw [hv]; rfl
          have f39 : (X.toList == [41]) = false := by rw [hv]; rfl
          have f40 : (X.toList == [91]) = true := by rw [hv]; rfl
          have f41 : (X.toList == [93]) = false := by rw [hv]; rfl
          have f42 : (X.toList == [123]) = false := by rw [hv]; rfl
          have f43 : (X.toList == [125]) = false := by rw [hv]; rfl
          have f44 : (X.toList == [44]) = false := by rw [hv]; rfl
          have f45 : (X.toList == [46]) = false := by rw [hv]; rfl
          have f46 : (X.toList == [58]) = false := by rw [hv]; rfl
          clear hXl hmem hv
          go_wp2
          rw [Exit.noGoto_ret]
          go_ret2
          exact ⟨by rw [HS.out]; rfl, rfl⟩
        · have hv : (s.data.toList.drop a).take n = [93] := by simpa using hmem
          rw [← hXl] at hv
          have f0 : (X.toList == [43]) = false := by rw [hv]; rfl
          have f1 : (X.toList == [45]) = false := by rw [hv]; rfl
          have f2 : (X.toList == [42]) = false := by rw [hv]; rfl
          have f3 : (X.toList == [47]) = false := by rw [hv]; rfl
          have f4 : (X.toList == [37]) = false := by rw [hv]; rfl
          have f5 : (X.toList == [38]) = false := by rw [hv]; rfl
          have f6 : (X.toList == [124]) = false := by rw [hv]; rfl
          have f7 : (X.toList == [94]) = false := by rw [hv]; rfl
          have f8 : (X.toList == [60, 60]) = false := by rw [hv]; rfl
          have f9 : (X.toList == [62, 62]) = false := by rw [hv]; rfl
          have f10 : (X.toList == [38, 94]) = false := by rw [hv]; rfl
          have f11 : (X.toList == [43, 61]) = false := by rw [hv]; rfl
          have f12 : (X.toList == [45, 61]) = false := by rw [hv]; rfl
          have f13 : (X.toList == [42, 61]) = false := by rw [hv]; rfl
          have f14 : (X.toList == [47, 61]) = false := by rw [hv]; rfl
          have f15 : (X.toList == [37, 61]) = false := by rw [hv]; rfl
          have f16 : (X.toList == [38, 61]) = false := by rw [hv]; rfl
          have f17 : (X.toList == [124, 61]) = false := by rw [hv]; rfl
          have f18 : (X.toList == [94, 61]) = false := by rw [hv]; rfl
          have f19 : (X.toList == [60, 60, 61]) = false := by rw [hv]; rfl
          have f20 : (X.toList == [62, 62, 61]) = false := by rw [hv]; rfl
          have f21 : (X.toList == [38, 94, 61]) = false := by rw [hv]; rfl
          have f22 : (X.toList == [38, 38]) = false := by rw [hv]; rfl
          have f23 : (X.toList == [124, 124]) = false := by rw [hv]; rfl
          have f24 : (X.toList == [60, 45]) = false := by rw [hv]; rfl
          have f25 : (X.toList == [43, 43]) = false := by rw [hv]; rfl
          have f26 : (X.toList == [45, 45]) = false := by rw [hv]; rfl
          have f27 : (X.toList == [61, 61]) = false := by rw [hv]; rfl
          have f28 : (X.toList == [60]) = false := by rw [hv]; rfl
          have f29 : (X.toList == [62]) = false := by rw [hv]; rfl
          have f30 : (X.toList == [61]) = false := by rw [hv]; rfl
          have f31 : (X.toList == [33]) = false := by rw [hv]; rfl
          have f32 : (X.toList == [126]) = false := by rw [hv]; rfl
          have f33 : (X.toList == [33, 61]) = false := by rw [hv]; rfl
          have f34 : (X.toList == [60, 61]) = false := by rw [hv]; rfl
          have f35 : (X.toList == [62, 61]) = false := by rw [hv]; rfl
          have f36 : (X.toList == [58, 61]) = false := by rw [hv]; rfl
          have f37 : (X.toList == [46, 46, 46]) = false := by rw [hv]; rfl
          have f38 : (X.toList == [40]) = false := by rw [hv]; rfl
          have f39 : (X.toList == [41]) = false := by rw [hv]; rfl
          have f40 : (X.toList == [91]) = false := by rw [hv]; rfl
          have f41 : (X.toList == [93]) = true := by rw [hv]; rfl
          have f42 : (X.toList == [123]) = false := by rw [hv]; rfl
          have f43 : (X.toList == [125]) = false := by rw [hv]; rfl
          have f44 : (X.toList == [44]) = false := by rw [hv]; rfl
          have f45 : (X.toList == [46]) = false := by rw [hv]; rfl
          have f46 : (X.toList == [58]) = false := by rw [hv]; rfl
          clear hXl hmem hv
          go_wp2
          rw [Exit.noGoto_ret]
          go_ret2
          exact ⟨by rw [HS.out]; rfl, rfl⟩
        · have hv : (s.data.toList.drop a).take n = [123] := by simpa using hmem
          rw [← hXl] at hv
          have f0 : (X.toList == [43]) = false := by rw [hv]; rfl
          have f1 : (X.toList == [45]) = false := by rw [hv]; rfl
          have f2 : (X.toList == [42]) = false := by rw [hv]; rfl
          have f3 : (X.toList == [47]) = false := by rw [hv]; rfl
          have f4 : (X.toList == [37]) = false := by rw [hv]; rfl
          have f5 : (X.toList == [38]) = false := by rw [hv]; rfl
          have f6 : (X.toList == [124]) = false := by rw [hv]; rfl
          have f7 : (X.toList == [94]) = false := by rw [hv]; rfl
          have f8 : (X.toList == [60, 60]) = false := by rw [hv]; rfl
          have f9 : (X.toList == [62, 62]) = false := by rw [hv]; rfl
          have f10 : (X.toList == [38, 94]) = false := by rw [hv]; rfl
          have f11 : (X.toList == [43, 61]) = false := by rw [hv]; rfl
          have f12 : (X.toList == [45, 61]) = false := by rw [hv]; rfl
          have f13 : (X.toList == [42, 61]) = false := by rw [hv]; rfl
          have f14 : (X.toList == [47, 61]) = false := by rw [hv]; rfl
          have f15 : (X.toList == [37, 61]) = false := by rw [hv]; rfl
          have f16 : (X.toList == [38, 61]) = false := by rw [hv]; rfl
          have f17 : (X.toList == [124, 61]) = false := by rw [hv]; rfl
          have f18 : (X.toList == [94, 61]) = false := by rw [hv]; rfl
          have f19 : (X.toList == [60, 60, 61]) = false := by rw [hv]; rfl
          have f20 : (X.toList == [62, 62, 61]) = false := by rw [hv]; rfl
          have f21 : (X.toList == [38, 94, 61]) = false := by rw [hv]; rfl
          have f22 : (X.toList == [38, 38]) = false := by rw [hv]; rfl
          have f23 : (X.toList == [124, 124]) = false := by rw [hv]; rfl
          have f24 : (X.toList == [60, 45]) = false := by rw [hv]; rfl
          have f25 : (X.toList == [43, 43]) = false := by rw [hv]; rfl
          have f26 : (X.toList == [45, 45]) = false := by rw [hv]; rfl
          have f27 : (X.toList == [61, 61]) = false := by rw [hv]; rfl
          have f28 : (X.toList == [60]) = false := by rw [hv]; rfl
          have f29 : (X.toList == [62]) = false := by rw [hv]; rfl
          have f30 : (X.toList == [61]) = false := by rw [hv]; rfl
          have f31 : (X.toList == [33]) = false := by rw [hv]; rfl
          have f32 : (X.toList == [126]) = false := by rw [hv]; rfl
          have f33 : (X.toList == [33, 61]) = false := by rw [hv]; rfl
          have f34 : (X.toList == [60, 61]) = false := by rw [hv]; rfl
          have f35 : (X.toList == [62, 61]) = false := by rw [hv]; rfl
          have f36 : (X.toList == [58, 61]) = false := by rw [hv]; rfl
          have f37 : (X.toList == [46, 46, 46]) = false := by rw [hv]; rfl
          have f38 : (X.toList == [40]) = false := by rw [hv]; rfl
          have f39 : (X.toList == [41]) = false := by rw [hv]; rfl
          have f40 : (X.toList == [91]) = false := by rw [hv]; rfl
          have f41 : (X.toList == [93]) = false := by rw [hv]; rfl
          have f42 : (X.toList == [123]) = true := by rw [hv]; rfl
          have f43 : (X.toList == [125]) = false := by rw [hv]; rfl
          have f44 : (X.toList == [44]) = false := by rw [hv]; rfl
          have f45 : (X.toList == [46]) = false := by rw [hv]; rfl
          have f46 : (X.toList == [58]) = false := by rw [hv]; rfl
          clear hXl hmem hv
          go_wp2
          rw [Exit.noGoto_ret]
          go_ret2
          exact ⟨by rw [HS.out]; rfl, rfl⟩
        · have hv : (s.data.toList.drop a).take n = [125] := by simpa using hmem
          rw [← hXl] at hv
          have f0 : (X.toList == [43]) = false := by rw [hv]; rfl
          have f1 : (X.toList == [45]) = false := by rw [hv]; rfl
          have f2 : (X.toList == [42]) = false := by rw [hv]; rfl
          have f3 : (X.toList == [47]) = false := by rw [hv]; rfl
          have f4 : (X.toList == [37]) = false := by rw [hv]; rfl
          have f5 : (X.toList == [38]) = false := by rw [hv]; rfl
          have f6 : (X.toList == [124]) = false := by rw [hv]; rfl
          have f7 : (X.toList == [94]) = false := by rw [hv]; rfl
          have f8 : (X.toList == [60, 60]) = false := by rw [hv]; rfl
          have f9 : (X.toList == [62, 62]) = false := by rw [hv]; rfl
          have f10 : (X.toList == [38, 94]) = false := by rw [hv]; rfl
          have f11 : (X.toList == [43, 61]) = false := by rw [hv]; rfl
          have f12 : (X.toList == [45, 61]) = false := by rw [hv]; rfl
          have f13 : (X.toList == [42, 61]) = false := by rw [hv]; rfl
          have f14 : (X.toList == [47, 61]) = false := by rw [hv]; rfl
          have f15 : (X.toList == [37, 61]) = false := by rw [hv]; rfl
          have f16 : (X.toList == [38, 61]) = false := by rw [hv]; rfl
          have f17 : (X.toList == [124, 61]) = false := by rw [hv]; rfl
          have f18 : (X.toList == [94, 61]) = false := by rw [hv]; rfl
          have f19 : (X.toList == [60, 60, 61]) = false := by rw [hv]; rfl
          have f20 : (X.toList == [62, 62, 61]) = false := by rw [hv]; rfl
          have f21 : (X.toList == [38, 94, 61]) = false := by rw [hv]; rfl
          have f22 : (X.toList == [38, 38]) = false := by rw [hv]; rfl
          have f23 : (X.toList == [124, 124]) = false := by rw [hv]; rfl
          have f24 : (X.toList == [60, 45]) = false := by rw [hv]; rfl
          have f25 : (X.toList == [43, 43]) = false := by rw [hv]; rfl
          have f26 : (X.toList == [45, 45]) = false := by rw [hv]; rfl
          have f27 : (X.toList == [61, 61]) = false := by rw [hv]; rfl
          have f28 : (X.toList == [60]) = false := by rw [hv]; rfl
          have f29 : (X.toList == [62]) = false := by rw [hv]; rfl
          have f30 : (X.toList == [61]) = false := by rw [hv]; rfl
          have f31 : (X.toList == [33]) = false := by rw [hv]; rfl
          have f32 : (X.toList == [126]) = false := by rw [hv]; rfl
          have f33 : (X.toList == [33, 61]) = false := by rw [hv]; rfl
          have f34 : (X.toList == [60, 61]) = false := by rw [hv]; rfl
          have f35 : (X.toList == [62, 61]) = false := by rw [hv]; rfl
          have f36 : (X.toList == [58, 61]) = false := by rw [hv]; rfl
          have f37 : (X.toList == [46, 46, 46]) = false := by rw [hv]; rfl
          have f38 : (X.toList == [40]) = false := by rw [hv]; rfl
          have f39 : (X.toList == [41]) = false := by rw [hv]; rfl
          have f40 : (X.toList == [91]) = false := by rw [hv]; rfl
          have f41 : (X.toList == [93]) = false := by rw [hv]; rfl
          have f42 : (X.toList == [123]) = false := by rw [hv]; rfl
          have f43 : (X.toList == [125]) = true := by rw [hv]; rfl
          have f44 : (X.toList == [44]) = false := by rw [hv]; rfl
          have f45 : (X.toList == [46]) = false := by rw [hv]; rfl
          have f46 : (X.toList == [58]) = false := by rw [hv]; rfl
          clear hXl hmem hv
          go_wp2
          rw [Exit.noGoto_ret]
          go_ret2
          exact ⟨by rw [HS.out]; rfl, rfl⟩
        · have hv : (s.data.toList.drop a).take n = [44] := by simpa using hmem
          rw [← hXl] at hv
          have f0 : (X.toList == [43]) = false := by rw [hv]; rfl
          have f1 : (X.toList == [45]) = false := by rw [hv]; rfl
          have f2 : (X.toList == [42]) = false := by rw [hv]; rfl
          have f3 : (X.toList == [47]) = false := by rw [hv]; rfl
          have f4 : (X.toList == [37]) = false := by rw [hv]; rfl
          have f5 : (X.toList == [38]) = false := by rw [hv]; rfl
          have f6 : (X.toList == [124]) = false := by rw [hv]; rfl
          have f7 : (X.toList == [94]) = false := by rw [hv]; rfl
          have f8 : (X.toList == [60, 60]) = false := by rw [hv]; rfl
          have f9 : (X.toList == [62, 62]) = false := by rw [hv]; rfl
          have f10 : (X.toList == [38, 94]) = false := by rw [hv]; rfl
          have f11 : (X.toList == [43, 61]) = false := by rw [hv]; rfl
          have f12 : (X.toList == [45, 61]) = false := by rw [hv]; rfl
          have f13 : (X.toList == [42, 61]) = false := by rw [hv]; rfl
          have f14 : (X.toList == [47, 61]) = false := by rw [hv]; rfl
          have f15 : (X.toList == [37, 61]) = false := by rw [hv]; rfl
          have f16 : (X.toList == [38, 61]) = false := by rw [hv]; rfl
          have f17 : (X.toList == [124, 61]) = false := by rw [hv]; rfl
          have f18 : (X.toList == [94, 61]) = false := by rw [hv]; rfl
          have f19 : (X.toList == [60, 60, 61]) = false := by rw [hv]; rfl
          have f20 : (X.toList == [62, 62, 61]) = false := by rw [hv]; rfl
          have f21 : (X.toList == [38, 94, 61]) = false := by rw [hv]; rfl
          have f22 : (X.toList == [38, 38]) = false := by rw [hv]; rfl
          have f23 : (X.toList == [124, 124]) = false := by rw [hv]; rfl
          have f24 : (X.toList == [60, 45]) = false := by rw [hv]; rfl
          have f25 : (X.toList == [43, 43]) = false := by rw [hv]; rfl
          have f26 : (X.toList == [45, 45]) = false := by rw [hv]; rfl
          have f27 : (X.toList == [61, 61]) = false := by rw [hv]; rfl
          have f28 : (X.toList == [60]) = false := by rw [hv]; rfl
          have f29 : (X.toList == [62]) = false := by rw [hv]; rfl
          have f30 : (X.toList == [61]) = false := by rw [hv]; rfl
          have f31 : (X.toList == [33]) = false := by rw [hv]; rfl
          have f32 : (X.toList == [126]) = false := by rw [hv]; rfl
          have f33 : (X.toList == [33, 61]) = false := by rw [hv]; rfl
          have f34 : (X.toList == [60, 61]) = false := by rw [hv]; rfl
          have f35 : (X.toList == [62, 61]) = false := by rw [hv]; rfl
          have f36 : (X.toList == [58, 61]) = false := by rw [hv]; rfl
          have f37 : (X.toList == [46, 46, 46]) = false := by rw [hv]; rfl
          have f38 : (X.toList == [40]) = false := by rw [hv]; rfl
          have f39 : (X.toList == [41]) = false := by rw [hv]; rfl
          have f40 : (X.toList == [91]) = false := by rw [hv]; rfl
          have f41 : (X.toList == [93]) = false := by rw [hv]; rfl
          have f42 : (X.toList == [123]) = false := by rw [hv]; rfl
          have f43 : (X.toList == [125]) = false := by rw [hv]; rfl
          have f44 : (X.toList == [44]) = true := by rw [hv]; rfl
          have f45 : (X.toList == [46]) = false := by rw [hv]; rfl
          have f46 : (X.toList == [58]) = false := by rw [hv]; rfl
          clear hXl hmem hv
          go_wp2
          rw [Exit.noGoto_ret]
          go_ret2
          exact ⟨by rw [HS.out]; rfl, rfl⟩
        · have hv : (s.data.toList.drop a).take n = [46] := by simpa using hmem
          rw [← hXl] at hv
          have f0 : (X.toList == [43]) = false := by rw [hv]; rfl
          have f1 : (X.toList == [45]) = false := by rw [hv]; rfl
          have f2 : (X.toList == [42]) = false := by rw [hv]; rfl
          have f3 : (X.toList == [47]) = false := by rw [hv]; rfl
          have f4 : (X.toList == [37]) = false := by rw [hv]; rfl
          have f5 : (X.toList == [38]) = false := by rw [hv]; rfl
          have f6 : (X.toList == [124]) = false := by rw [hv]; rfl
          have f7 : (X.toList == [94]) = false := by rw [hv]; rfl
          have f8 : (X.toList == [60, 60]) = false := by rw [hv]; rfl
          have f9 : (X.toList == [62, 62]) = false := by rw [hv]; rfl
          have f10 : (X.toList == [38, 94]) = false := by rw [hv]; rfl
          have f11 : (X.toList == [43, 61]) = false := by rw [hv]; rfl
          have f12 : (X.toList == [45, 61]) = false := by rw [hv]; rfl
          have f13 : (X.toList == [42, 61]) = false := by rw [hv]; rfl
          have f14 : (X.toList == [47, 61]) = false := by rw [hv]; rfl
          have f15 : (X.toList == [37, 61]) = false := by rw [hv]; rfl
          have f16 : (X.toList == [38, 61]) = false := by rw [hv]; rfl
          have f17 : (X.toList == [124, 61]) = false := by rw [hv]; rfl
          have f18 : (X.toList == [94, 61]) = false := by rw [hv]; rfl
          have f19 : (X.toList == [60, 60, 61]) = false := by rw [hv]; rfl
          have f20 : (X.toList == [62, 62, 61]) = false := by rw [hv]; rfl
          have f21 : (X.toList == [38, 94, 61]) = false := by rw [hv]; rfl
          have f22 : (X.toList == [38, 38]) = false := by rw [hv]; rfl
          have f23 : (X.toList == [124, 124]) = false := by rw [hv]; rfl
          have f24 : (X.toList == [60, 45]) = false := by rw [hv]; rfl
          have f25 : (X.toList == [43, 43]) = false := by rw [hv]; rfl
          have f26 : (X.toList == [45, 45]) = false := by rw [hv]; rfl
          have f27 : (X.toList == [61, 61]) = false := by rw [hv]; rfl
          have f28 : (X.toList == [60]) = false := by rw [hv]; rfl
          have f29 : (X.toList == [62]) = false := by rw [hv]; rfl
          have f30 : (X.toList == [61]) = false := by rw [hv]; rfl
          have f31 : (X.toList == [33]) = false := by rw [hv]; rfl
          have f32 : (X.toList == [126]) = false := by rw [hv]; rfl
          have f33 : (X.toList == [33, 61]) = false := by rw [hv]; rfl
          have f34 : (X.toList == [60, 61]) = false := by rw [hv]; rfl
          have f35 : (X.toList == [62, 61]) = false := by rw [hv]; rfl
          have f36 : (X.toList == [58, 61]) = false := by rw [hv]; rfl
          have f37 : (X.toList == [46, 46, 46]) = false := by rw [hv]; rfl
          have f38 : (X.toList == [40]) = false := by rw [hv]; rfl
          have f39 : (X.toList == [41]) = false := by rw [hv]; rfl
          have f40 : (X.toList == [91]) = false := by rw [hv]; rfl
          have f41 : (X.toList == [93]) = false := by rw [hv]; rfl
          have f42 : (X.toList == [123]) = false := by rw [hv]; rfl
          have f43 : (X.toList == [125]) = false := by rw [hv]; rfl
          have f44 : (X.toList == [44]) = false := by rw [hv]; rfl
          have f45 : (X.toList == [46]) = true := by rw [hv]; rfl
          have f46 : (X.toList == [58]) = false := by rw [hv]; rfl
          clear hXl hmem hv
          go_wp2
          rw [Exit.noGoto_ret]
          go_ret2
          exact ⟨by rw [HS.out]; rfl, rfl⟩
        · have hv : (s.data.toList.drop a).take n = [58] := by simpa using hmem
          rw [← hXl] at hv
          have f0 : (X.toList == [43]) = false := by rw [hv]; rfl
          have f1 : (X.toList == [45]) = false := by rw [hv]; rfl
          have f2 : (X.toList == [42]) = false := by rw [hv]; rfl
          have f3 : (X.toList == [47]) = false := by rw [hv]; rfl
          have f4 : (X.toList == [37]) = false := by rw [hv]; rfl
          have f5 : (X.toList == [38]) = false := by rw [hv]; rfl
          have f6 : (X.toList == [124]) = false := by rw [hv]; rfl
          have f7 : (X.toList == [94]) = false := by rw [hv]; rfl
          have f8 : (X.toList == [60, 60]) = false := by rw [hv]; rfl
          have f9 : (X.toList == [62, 62]) = false := by rw [hv]; rfl
          have f10 : (X.toList == [38, 94]) = false := by rw [hv]; rfl
          have f11 : (X.toList == [43, 61]) = false := by rw [hv]; rfl
          have f12 : (X.toList == [45, 61]) = false := by rw [hv]; rfl
          have f13 : (X.toList == [42, 61]) = false := by rw [hv]; rfl
          have f14 : (X.toList == [47, 61]) = false := by rw [hv]; rfl
          have f15 : (X.toList == [37, 61]) = false := by rw [hv]; rfl
          have f16 : (X.toList == [38, 61]) = false := by rw [hv]; rfl
          have f17 : (X.toList == [124, 61]) = false := by rw [hv]; rfl
          have f18 : (X.toList == [94, 61]) = false := by rw [hv]; rfl
          have f19 : (X.toList == [60, 60, 61]) = false := by rw [hv]; rfl
          have f20 : (X.toList == [62, 62, 61]) = false := by rw [hv]; rfl
          have f21 : (X.toList == [38, 94, 61]) = false := by rw [hv]; rfl
          have f22 : (X.toList == [38, 38]) = false := by rw [hv]; rfl
          have f23 : (X.toList == [124, 124]) = false := by rw [hv]; rfl
          have f24 : (X.toList == [60, 45]) = false := by rw [hv]; rfl
          have f25 : (X.toList == [43, 43]) = false := by rw [hv]; rfl
          have f26 : (X.toList == [45, 45]) = false := by rw [hv]; rfl
          have f27 : (X.toList == [61, 61]) = false := by rw [hv]; rfl
          have f28 : (X.toList == [60]) = false := by rw [hv]; rfl
          have f29 : (X.toList == [62]) = false := by rw [hv]; rfl
          have f30 : (X.toList == [61]) = false := by rw [hv]; rfl
          have f31 : (X.toList == [33]) = false := by rw [hv]; rfl
          have f32 : (X.toList == [126]) = false := by rw [hv]; rfl
          have f33 : (X.toList == [33, 61]) = false := by rw [hv]; rfl
          have f34 : (X.toList == [60, 61]) = false := by rw [hv]; rfl
          have f35 : (X.toList == [62, 61]) = false := by rw [hv]; rfl
          have f36 : (X.toList == [58, 61]) = false := by rw [hv]; rfl
          have f37 : (X.toList == [46, 46, 46]) = false := by rw [hv]; rfl
          have f38 : (X.toList == [40]) = false := by rw [hv]; rfl
          have f39 : (X.toList == [41]) = false := by rw [hv]; rfl
          have f40 : (X.toList == [91]) = false := by rw [hv]; rfl
          have f41 : (X.toList == [93]) = false := by rw [hv]; rfl
          have f42 : (X.toList == [123]) = false := by rw [hv]; rfl
          have f43 : (X.toList == [125]) = false := by rw [hv]; rfl
          have f44 : (X.toList == [44]) = false := by rw [hv]; rfl
          have f45 : (X.toList == [46]) = false := by rw [hv]; rfl
          have f46 : (X.toList == [58]) = true := by rw [hv]; rfl
          clear hXl hmem hv
          go_wp2
          rw [Exit.noGoto_ret]
          go_ret2
          exact ⟨by rw [HS.out]; rfl, rfl⟩
      | false =>
        rw [hs2, if_neg (by decide)] at hst
        have HST := Lib.hid hst.symm
        have hX : ∀ x ∈ signs, (X.toList == x) = false := by
          intro x hx
          rw [hXl, beq_eq_false_iff_ne]
          intro e
          rw [e] at hs2
          unfold isSign at hs2
          rw [List.contains_iff_mem.2 hx] at hs2
          cases hs2
        have f0 : (X.toList == [43]) = false := hX [43] (by decide)
        have f1 : (X.toList == [45]) = false := hX [45] (by decide)
        have f2 : (X.toList == [42]) = false := hX [42] (by decide)
        have f3 : (X.toList == [47]) = false := hX [47] (by decide)
        have f4 : (X.toList == [37]) = false := hX [37] (by decide)
        have f5 : (X.toList == [38]) = false := hX [38] (by decide)
        have f6 : (X.toList == [124]) = false := hX [124] (by decide)
        have f7 : (X.toList == [94]) = false := hX [94] (by decide)
        have f8 : (X.toList == [60, 60]) = false := hX [60, 60] (by decide)
        have f9 : (X.toList == [62, 62]) = false := hX [62, 62] (by decide)
        have f10 : (X.toList == [38, 94]) = false := hX [38, 94] (by decide)
        have f11 : (X.toList == [43, 61]) = false := hX [43, 61] (by decide)
        have f12 : (X.toList == [45, 61]) = false := hX [45, 61] (by decide)
        have f13 : (X.toList == [42, 61]) = false := hX [42, 61] (by decide)
        have f14 : (X.toList == [47, 61]) = false := hX [47, 61] (by decide)
        have f15 : (X.toList == [37, 61]) = false := hX [37, 61] (by decide)
        have f16 : (X.toList == [38, 61]) = false := hX [38, 61] (by decide)
        have f17 : (X.toList == [124, 61]) = false := hX [124, 61] (by decide)
        have f18 : (X.toList == [94, 61]) = false := hX [94, 61] (by decide)
        have f19 : (X.toList == [60, 60, 61]) = false := hX [60, 60, 61] (by decide)
        have f20 : (X.toList == [62, 62, 61]) = false := hX [62, 62, 61] (by decide)
        have f21 : (X.toList == [38, 94, 61]) = false := hX [38, 94, 61] (by decide)
        have f22 : (X.toList == [38, 38]) = false := hX [38, 38] (by decide)
        have f23 : (X.toList == [124, 124]) = false := hX [124, 124] (by decide)
        have f24 : (X.toList == [60, 45]) = false := hX [60, 45] (by decide)
        have f25 : (X.toList == [43, 43]) = false := hX [43, 43] (by decide)
        have f26 : (X.toList == [45, 45]) = false := hX [45, 45] (by decide)
        have f27 : (X.toList == [61, 61]) = false := hX [61, 61] (by decide)
        have f28 : (X.toList == [60]) = false := hX [60] (by decide)
        have f29 : (X.toList == [62]) = false := hX [62] (by decide)
        have f30 : (X.toList == [61]) = false := hX [61] (by decide)
        have f31 : (X.toList == [33]) = false := hX [33] (by decide)
        have f32 : (X.toList == [126]) = false := hX [126] (by decide)
        have f33 : (X.toList == [33, 61]) = false := hX [33, 61] (by decide)
        have f34 : (X.toList == [60, 61]) = false := hX [60, 61] (by decide)
        have f35 : (X.toList == [62, 61]) = false := hX [62, 61] (by decide)
        have f36 : (X.toList == [58, 61]) = false := hX [58, 61] (by decide)
        have f37 : (X.toList == [46, 46, 46]) = false := hX [46, 46, 46] (by decide)
        have f38 : (X.toList == [40]) = false := hX [40] (by decide)
        have f39 : (X.toList == [41]) = false := hX [41] (by decide)
        have f40 : (X.toList == [91]) = false := hX [91] (by decide)
        have f41 : (X.toList == [93]) = false := hX [93] (by decide)
        have f42 : (X.toList == [123]) = false := hX [123] (by decide)
        have f43 : (X.toList == [125]) = false := hX [125] (by decide)
        have f44 : (X.toList == [44]) = false := hX [44] (by decide)
        have f45 : (X.toList == [46]) = false := hX [46] (by decide)
        have f46 : (X.toList == [58]) = false := hX [58] (by decide)
        clear hs2 hXl hX hst
        go_wp2
        go_roundw
        case rel => exact ⟨m, by have := HNm.out; omega, by rw [HNm.out]; go_num, (by first | rfl | trivial), HST⟩
        case measure => simp [intOf]; omega
end Go.Proofs.YtbkmlldhjchhjaaGreat
