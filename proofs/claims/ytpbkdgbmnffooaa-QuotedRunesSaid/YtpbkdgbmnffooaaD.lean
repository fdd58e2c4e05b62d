/-
  Layer 6: contract of the reader's rawText.
-/
import Derived.Test.YtpbkdgbmnffooaaC
namespace Go.Proofs.Ytpbkdgbmnffooaa
open Go.ChangeShapes Go.WideShapes Go.ChangeAt Go.RowKit

/-- a raw string behind its first mark: what it says, where it ends -/
def rawOf : Nat → List UInt8 → List UInt8 → Option (List UInt8 × Nat)
  | _, _, [] => none
  | k, acc, c :: t => if c = 96 then some (acc, k + 1) else rawOf (k + 1) (if c = 13 then acc else acc ++ [c]) t

theorem one_at (w : World) (x : Value) (t : TypeId) (g : Nat) (hg : w.heap.size = g) : ∀ j u, [x][j]? = some u → (w.alloc (.cells #[x] t)).cell? ((⟨g, 0, none⟩ : Addr).add j) = some u := by
  subst hg; exact one_new w x t
theorem rawOf_step (k : Nat) (acc : List UInt8) (c : UInt8) (t : List UInt8) : rawOf k acc (c :: t) = if c = 96 then some (acc, k + 1) else rawOf (k + 1) (if c = 13 then acc else acc ++ [c]) t := rfl
set_option maxRecDepth 100000 in
set_option maxHeartbeats 4000000 in
theorem raw_any (s : ByteArray) (hs : s.size ≤ 140737488351232) (b k : Nat) (v : Value) (T : List UInt8) (hT : T.length ≤ k) (w : World) (hR : Rd w b s k v T) :
    Calls Try.prog 26 #[.pointer (some ⟨b, 0, none⟩)] w fun e w' => e = .returned (.bool (rawOf k T (s.data.toList.drop k)).isSome) ∧ (∀ L k', rawOf k T (s.data.toList.drop k) = some (L, k') → (∃ v', Rd w' b s k' v' L)) ∧ Below b w w' := by
  obtain ⟨i0, hi, hz0, hz1, hz2⟩ := info_parts info5
  obtain ⟨A, hA⟩ : ∃ A, A = rawOf k T (s.data.toList.drop k) := ⟨_, rfl⟩
  rw [← hA]
  have HA := Lib.hid hA
  have HR := Lib.hid hR
  have hk := hR.hk
  clear hA hR
  go_enter Try.func26, Try.ntmps26
  go_wp2
  go_loopg [] (s.size - k) (fun g wr => ∃ (i : Nat) (v : Value) (T : List UInt8), g = s.size - i ∧ i ≤ s.size ∧ T.length ≤ i ∧ Hid (Rd wr b s i v T) ∧ Below b w wr ∧ Hid (A = rawOf i T (s.data.toList.drop i)))
  case atStart => exact ⟨k, v, T, rfl, hk, hT, HR, Below.refl _ _, HA⟩
  case round =>
    obtain ⟨i, v, T, rfl, hi', hTi, hRd, hB, hAi⟩ := hrel
    have c0 := hRd.out.c0
    have c1 := hRd.out.c1
    have f1 := hRd.out.f 1
    have hlt2 := hRd.out.lt
    by_cases hlt : i < s.size
    · have d1 : decide (i < s.size) = true := decide_eq_true hlt
      have d2 : (i : Int) < s.size := by omega
      have d3 : (0 : Int) ≤ i := by omega
      have w1 : IntKind.i64.wrap ((i : Int) + 1) = (i : Int) + 1 := by rw [IntKind.wrap_i64]; omega
      have hst := hAi.out
      rw [drop_at s i hlt] at hst
      have HM := Lib.hid (show ∀ m, Rd ((wr.drewN m).setCell ⟨b, 1, none⟩ (.int .i64 ((i : Int) + 1))) b s (i + 1) v T from fun m => (hRd.out.drewN m).move (i + 1) (by omega))
      have hBm := Lib.hid (show ∀ m, Below b w ((wr.drewN m).setCell ⟨b, 1, none⟩ (.int .i64 ((i : Int) + 1))) from fun m => (below_drewN hB m).setCell (p := ⟨b, 1, none⟩) (Nat.le_refl _) _)
      have b96 := bytes_n s[i] 96 96 rfl
      have b13 := bytes_n s[i] 13 13 rfl
      by_cases h96 : s[i] = 96
      · have hA2 : A = some (T, i + 1) := by rw [hst, rawOf_step, if_pos h96]
        rw [decide_eq_true h96] at b96
        subst hA2
        clear hst b13 h96 hAi
        go_upto_region 1 with fail
        go_quiet (fail)
        go_upto_region 2 with fail
        go_quiet (fail)
        go_wp2
        go_ret
        exact ⟨rfl, (fun L k' h => by cases h; exact ⟨v, HM.out _⟩), hBm.out _⟩
      · rw [decide_eq_false h96] at b96
        by_cases h13 : s[i] = 13
        · have hA2 := Lib.hid (show A = rawOf (i + 1) T (s.data.toList.drop (i + 1)) by rw [hst, rawOf_step, if_neg h96, if_pos h13])
          rw [decide_eq_true h13] at b13
          have b13' : ((s[i].toNat : Int) != 13) = false := by rw [bne, b13]; rfl
          clear hst h96 h13 hAi b13
          go_upto_region 1 with fail
          go_quiet (fail)
          go_upto_region 2 with fail
          go_quiet (fail)
          go_wp2
          go_roundg (s.size - (i + 1))
          case measure => omega
          case rel => exact ⟨i + 1, v, T, rfl, by omega, by omega, Lib.hid (HM.out _), hBm.out _, hA2⟩
        · have hA2 := Lib.hid (show A = rawOf (i + 1) (T ++ [s[i]]) (s.data.toList.drop (i + 1)) by rw [hst, rawOf_step, if_neg h96, if_neg h13])
          rw [decide_eq_false h13] at b13
          have b13' : ((s[i].toNat : Int) != 13) = true := by rw [bne, b13]; rfl
          clear hst h96 h13 hAi b13
          go_upto_region 1 with fail
          go_quiet (fail)
          go_upto_region 2 with fail
          go_quiet (fail)
          have hcM := fun m => (HM.out m).c2
          go_wp2_with (at_builtin; refine wpList_append_own _ rfl _ _ 32 rfl (b + 1) 5 i0 (.int .u8 0) 1 1 Try.underlying32 hi hz0 hz1 hz2 rfl (by decide) _ _ _ rfl ((HM.out _).own.alloc _) ⟨_, 0, none⟩ 1 1 [.int .u8 (s[i].toNat : Int)] rfl rfl ?c1 ?c2 ?c3 ?c4 ?c5 ?_)
          try any_goals (first | rfl | (unfold maxLen; omega) | omega | exact one_new _ _ _ | exact one_at _ _ _ _ (by simp) | (intro u hu; simp at hu; subst hu; rfl; done) | (simp; omega))
          intro v' w1 hown' hgrow _
          obtain ⟨g1, g2, g3⟩ := ((HM.out _).alloc _).grew (L := [s[i]]) hown' hgrow
          obtain ⟨ao, nn, cap, rfl⟩ := own_slice hown'
          have d5 : w1.frozen? ⟨b, 2, none⟩ = false := by unfold World.frozen?; simp only [g1]; rfl
          have d6 : w1.cell? ⟨b, 2, none⟩ = some v := by unfold World.cell?; simp only [g1]; rfl
          have G := Lib.hid (And.intro g2 (((hBm.out _).alloc (Nat.le_of_lt (by simpa using hlt2)) _).trans g3))
          clear g1 g2 g3 hown' hgrow
          go_wp2
          go_roundg (s.size - (i + 1))
          case measure => omega
          case rel => exact ⟨i + 1, _, T ++ [s[i]], rfl, by omega, by simp; omega, Lib.hid G.out.1, G.out.2, hA2⟩
    · have d1 : decide (i < s.size) = false := decide_eq_false hlt
      have hAz : A = none := by rw [hAi.out, List.drop_of_length_le (by simp; omega)]; rfl
      subst hAz
      go_upto_region 1 with fail
      go_quiet (fail)
      go_wp2
      go_ret
      first
        | exact ⟨rfl, (fun _ _ h => by cases h), below_drewN hB _⟩
        | exact ⟨rfl, below_drewN hB _⟩
end Go.Proofs.Ytpbkdgbmnffooaa
