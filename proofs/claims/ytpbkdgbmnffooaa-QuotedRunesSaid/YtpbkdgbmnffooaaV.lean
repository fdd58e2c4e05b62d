/-
  Layer 6: the document's Begun: raw strings.
-/
import Derived.Test.YtpbkdgbmnffooaaU
namespace Go.Proofs.Ytpbkdgbmnffooaa
open Go.ChangeShapes Go.WideShapes Go.ChangeAt Go.RowKit

/-- what Begun answers -/
def begAns : Option (Nat × List UInt8 × Nat) → Value
  | some (K, L, k') => .tuple #[.int .u8 K, .int .i64 k', .string ⟨L.toArray⟩, .int .i64 0]
  | none => .tuple #[.int .u8 0, .int .i64 0, .string ⟨#[]⟩, .int .i64 4]
theorem conv_drewN {w : World} {base : Nat} {v : Value} {l : List UInt8} (h : w.ownsRow base 5 1 v l.length (bvals l)) (m : Nat) :
    (convert 32 9 v).run Try.prog (w.drewN m) = .ok (.string ⟨l.toArray⟩) (w.drewN m) := conv_own (w := w.drewN m) (base := base) h
theorem results_tmp4 {fn : Func} {t u v x : Tmp} (h : fn.results = #[.tmp t, .tmp u, .tmp v, .tmp x]) (tmps : Array Value) (P : Program) (w : World) :
    (results fn tmps).run P w = .ok (.tuple #[tmps.getD t undef, tmps.getD u undef, tmps.getD v undef, tmps.getD x undef]) w := by
  simp [results, h]
set_option maxRecDepth 100000 in
set_option maxHeartbeats 4000000 in
theorem begun_raw (s : ByteArray) (hs : s.size ≤ 140737488351232) (k : Nat) (hk : k < s.size) (hc : s[k] = 96) (w : World) :
    Calls Try.prog 21 #[.string s, .int .i64 k] w fun e w' => e = .returned (begAns ((rawOf (k + 1) [] (s.data.toList.drop (k + 1))).map fun x => (7, x))) ∧ Below w.heap.size w w' := by
  obtain ⟨i0, hi, hz0, hz1, hz2⟩ := info_parts info5
  obtain ⟨A, hA⟩ : ∃ A, A = rawOf (k + 1) [] (s.data.toList.drop (k + 1)) := ⟨_, rfl⟩
  rw [← hA]
  have HA := Lib.hid hA
  have hcn : (s[k].toNat : Int) = 96 := by rw [hc]; rfl
  have d1 : (k : Int) < s.size := by omega
  have d2 : (0 : Int) ≤ k := by omega
  have d3 : decide ((k : Int) < 0) = false := decide_eq_false (by omega)
  have d4 : decide (s.size ≤ k) = false := decide_eq_false (by omega)
  clear hA hc
  go_enter Try.func21, Try.ntmps21
  go_wp2
  go_loopw [9, 10] (fun v iv wr => ∃ (i : Nat) (T : List UInt8), i ≤ s.size ∧ T.length ≤ i ∧ iv = .int .i64 i ∧ Own wr w.heap.size v T ∧ Below w.heap.size w wr ∧ Hid (A = rawOf i T (s.data.toList.drop i))) (fun _ iv _ => s.size - (intOf iv).toNat)
  case atStart => exact ⟨k + 1, [], by omega, by simp, by go_num, World.ownsRow_nil _ _ _ _, Below.refl _ _, HA⟩
  case round =>
    clear HA
    obtain ⟨i, T, hi', hTi, rfl, hO, hB, hAi⟩ := hrel
    have hbs := hB.size
    by_cases hlt : i < s.size
    · have hst := hAi.out
      rw [drop_at s i hlt, rawOf_step] at hst
      have i1 : (i : Int) < s.size := by omega
      have i2 : (0 : Int) ≤ i := by omega
      have b96 := bytes_n s[i] 96 96 rfl
      have b13 := bytes_n s[i] 13 13 rfl
      by_cases h96 : s[i] = 96
      · have hA2 : A = some (T, i + 1) := by rw [hst, if_pos h96]
        rw [decide_eq_true h96] at b96
        subst hA2
        have hcv := fun m => conv_drewN (w := wr) hO.own m
        have hz : decide (i = k + 1) = decide (i = k + 1) := rfl
        have g96 : ((s[i].toNat : Int) != 96) = false := by rw [bne, b96]; rfl
        clear hst b13 h96 hAi hz
        go_wp2
        go_quiet (fail)
        go_wp2
        refine bodyPost_ret (results_tmp4 rfl _ _ _) rfl ⟨rfl, below_drewN hB _⟩
      rw [decide_eq_false h96, if_neg h96] at *
      by_cases h13 : s[i] = 13
      · rw [if_pos h13] at hst
        have hA2 := Lib.hid hst
        rw [decide_eq_true h13] at b13
        have g13 : ((s[i].toNat : Int) != 13) = false := by rw [bne, b13]; rfl
        have g96 : ((s[i].toNat : Int) != 96) = true := by rw [bne, b96]; rfl
        clear hst h13 hAi h96 b13
        go_wp2
        go_roundw
        case rel => exact ⟨i + 1, T, by omega, by omega, by go_num, hO, hB, hA2⟩
        case measure => simp [intOf]; omega
      · rw [if_neg h13] at hst
        have hA2 := Lib.hid hst
        rw [decide_eq_false h13] at b13
        have g13 : ((s[i].toNat : Int) != 13) = true := by rw [bne, b13]; rfl
        have g96 : ((s[i].toNat : Int) != 96) = true := by rw [bne, b96]; rfl
        clear hst h13 hAi h96 b13
        go_wp2_with (at_builtin; refine wpList_append_own _ rfl _ _ 32 rfl w.heap.size 5 i0 (.int .u8 0) 1 1 Try.underlying32 hi hz0 hz1 hz2 rfl (by decide) _ _ _ rfl (hO.alloc _) ⟨wr.heap.size, 0, none⟩ 1 1 (bvals [s[i]]) rfl rfl (row_new _ _ _) ?_ ?_ ?_ ?_ ?_)
        · intro u hu; simp [bvals] at hu; subst hu; rfl
        · unfold maxLen; omega
        · omega
        · simp; omega
        intro v' w1 hown' hgrow _
        obtain ⟨hO1, hB1⟩ := hO.grew hB hbs (L := [s[i]]) hown' hgrow
        obtain ⟨ao, nn, cap, rfl⟩ := own_slice hown'
        clear hown' hgrow
        go_wp2_with fail
        go_roundw
        case rel => exact ⟨i + 1, T ++ [s[i]], by omega, by simp; omega, by go_num, hO1, hB1, hA2⟩
        case measure => simp [intOf]; omega
    · have hAz : A = none := by rw [hAi.out, List.drop_of_length_le (by simp; omega)]; rfl
      subst hAz
      have i1 : ¬ (i : Int) < s.size := by omega
      have i3 : decide (s.size ≤ i) = true := decide_eq_true (by omega)
      clear hAi
      go_wp2
      refine bodyPost_ret (results_tmp4 rfl _ _ _) rfl ⟨rfl, hB⟩
end Go.Proofs.Ytpbkdgbmnffooaa
