/-
  Layer 10: contracts of the document's Kids, Up, Over, Depth, and of Ints.
-/
import Derived.Test.YtdlpminekojahaaL
namespace Go.Proofs.Ytdlpminekojahaa
open Go.ChangeShapes Go.WideShapes Go.ChangeAt Go.RowKit

set_option maxHeartbeats 4000000 in
theorem rkids_any (w : World) (a : Option Addr) (n cap : Nat) (l : List Nd) (hl : Nodes w a n l) (hn : n ≤ 2000) (ht : wellB (kidsL l) = true) (i : Nat) (hi : i < n) :
    Calls Try.prog 23 #[.slice a n cap, .int .i64 i] w fun e w' => (∃ v, e = .returned v ∧ MineI w' w.heap.size v (natsI (kidsN (kidsL l) i))) ∧ Below w.heap.size w w' := by
  have hre := rends_any w a n cap l hl hn ht
  have HLK : Hid ((kidsL l).length = n) := Lib.hid (by rw [kidsL_len]; exact hl.1)
  have hg := end_goes (well_goes.1 ht) (Nat.zero_le i) (by rw [HLK.out]; exact hi)
  obtain ⟨y, hy, h0, hG⟩ := (goes_succ (n := 0)).1 hg.1
  have hky : kidsN (kidsL l) i = kidsFrom (kidsL l) y.toNat (i + 1) := by unfold kidsN; rw [List.getD, hy]; rfl
  rw [hky]
  rw [Nat.zero_add] at hG
  have he := hg.2.2
  rw [HLK.out] at he
  obtain ⟨m, hm⟩ : ∃ m, m = y.toNat := ⟨_, rfl⟩
  rw [← hm] at hG ⊢
  have HG := Lib.hid hG
  have hle := goes_le hG
  clear hl ht hg hy h0 hG hky hm
  obtain ⟨i0, hi0, hz0, hz1, hz2⟩ := info_parts info3
  have H1 := Lib.hid hi0
  have H2 := Lib.hid hz0
  have H3 := Lib.hid hz1
  have H4 := Lib.hid hz2
  clear hi0 hz0 hz1 hz2
  go_enter Try.func23, Try.ntmps23
  go_wp2_with (go_at_call 32; refine hre.mono ?_; rintro e w1 ⟨⟨b, rfl, hI⟩, hB1⟩; have HI := Lib.hid hI; have HB1 := Lib.hid hB1; clear hI hB1)
  clear hre
  go_loopw [7, 8] (fun v t wr => ∃ (p q : Nat) (xs : List Int), i < p ∧ p ≤ endN (kidsL l) i ∧ t = .int .i64 p ∧ xs.length ≤ p ∧ Hid (Goes (kidsL l) p q (endN (kidsL l) i)) ∧ Hid (xs ++ natsI (kidsFrom (kidsL l) q p) = natsI (kidsFrom (kidsL l) m (i + 1))) ∧ Hid (MineI wr w1.heap.size v xs) ∧ Hid (Below w1.heap.size w1 wr)) (fun _ t _ => endN (kidsL l) i - (intOf t).toNat)
  case atStart => exact ⟨i + 1, m, [], by omega, by omega, by go_num, by simp, HG, Lib.hid rfl, Lib.hid (mineI_nil _ _), Lib.hid (Below.refl _ _)⟩
  case round =>
    obtain ⟨p, q, xs, hp1, hp2, rfl, hxl, HP, HX, HM, HB⟩ := hrel
    obtain ⟨gb, hgb, ce⟩ := HI.out.below HB.out i _ (endsL_at (K := kidsL l) (i := i) (by rw [HLK.out]; exact hi))
    obtain rfl : b = gb := by cases hgb; rfl
    cases q with
    | zero =>
      have hpe := goes_fun HP.out (goes_zero _ _)
      have hnk : ¬ p < endN (kidsL l) i := by omega
      have HX2 := HX.out
      rw [show natsI (kidsFrom (kidsL l) 0 p) = [] from rfl, List.append_nil] at HX2
      have hM := HM.out
      rw [HX2] at hM
      have HM9 := Lib.hid (mineI_mono hM HB1.out.size)
      clear HX2 hM hpe hgb
      go_wp2
      go_ret
      exact ⟨⟨_, rfl, HM9.out⟩, HB1.out.trans (HB.out.mono HB1.out.size)⟩
    | succ q =>
      obtain ⟨g1, g2, g3⟩ := kids_end HP.out
      rw [HLK.out] at g3
      obtain ⟨gb2, hgb2, ck⟩ := HI.out.below HB.out p _ (endsL_at (K := kidsL l) (i := p) (by rw [HLK.out]; exact g3))
      obtain rfl : b = gb2 := by cases hgb2; rfl
      have hl1 := goes_le g1
      have hl2 := goes_le g2
      have hk1 : p < endN (kidsL l) p := by omega
      have hk2 : endN (kidsL l) p ≤ endN (kidsL l) i := by omega
      have hk3 : p < endN (kidsL l) i := by omega
      have HX3 : Hid (xs ++ [(p : Int)] ++ natsI (kidsFrom (kidsL l) q (endN (kidsL l) p)) = natsI (kidsFrom (kidsL l) m (i + 1))) := Lib.hid (by rw [List.append_assoc]; exact HX.out)
      have HG2 := Lib.hid g2
      have hob := fun q hq => (HM.out.lt q hq).1
      have hck := cell_lt ck
      dsimp only at hck
      have CK := Lib.hid ck
      have hbw1 : b < w1.heap.size := by obtain ⟨g', e', c'⟩ := HI.out i _ (endsL_at (K := kidsL l) (i := i) (by rw [HLK.out]; exact hi)); cases e'; exact cell_lt c'
      clear g1 g2 hl1 hl2 hgb hgb2
      go_wp2_with (at_builtin; refine wpList_append_own _ rfl _ _ 30 rfl w1.heap.size 3 i0 (.int .i64 0) 1 8 Try.underlying30 H1.out H2.out H3.out H4.out rfl (by decide) _ _ _ rfl (HM.out.alloc _) ⟨_, 0, none⟩ 1 1 [.int .i64 p] rfl rfl ?c1 ?c2 ?c3 ?c4 ?c5 ?_)
      case c1 => exact one_new _ _ _
      case c2 => intro u hu; simp at hu; subst hu; rfl
      case c3 => unfold maxLen; omega
      case c4 => omega
      case c5 => have := HB.out.size; simp; omega
      intro v2 w2 hown2 hg2 _
      have HM2 : Hid (MineI w2 w1.heap.size v2 (xs ++ [(p : Int)])) := Lib.hid (mineI_snoc hown2)
      have hB2 : Below w1.heap.size wr w2 := ((Below.refl _ wr).alloc HB.out.size _).grown hg2 (by have := HB.out.size; simp; omega) hob
      have HB2 := Lib.hid (HB.out.trans hB2)
      have ck2 := (hB2.cell (p := ⟨b, p, none⟩) hbw1).trans CK.out
      clear hown2 hg2 hob hB2 ck ce
      go_wp2
      go_roundw
      case rel => exact ⟨endN (kidsL l) p, q, xs ++ [(p : Int)], by omega, hk2, rfl, by simp; omega, HG2, HX3, HM2, HB2⟩
      case measure => simp [intOf]; omega
set_option maxHeartbeats 4000000 in
theorem rup_any (w : World) (a : Option Addr) (n cap : Nat) (l : List Nd) (hl : Nodes w a n l) (hn : n ≤ 2000) (ht : wellB (kidsL l) = true) (i : Nat) (hi : i < n) :
    Calls Try.prog 21 #[.slice a n cap, .int .i64 i] w fun e w' => e = .returned (.int .i64 (upN (kidsL l) i)) ∧ Below w.heap.size w w' := by
  have hre := rends_any w a n cap l hl hn ht
  have HLK : Hid ((kidsL l).length = n) := Lib.hid (by rw [kidsL_len]; exact hl.1)
  have hup : upN (kidsL l) i = upFrom (kidsL l) i i := rfl
  rw [hup]
  clear hl ht hup
  go_enter Try.func21, Try.ntmps21
  go_wp2_with (go_at_call 32; refine hre.mono ?_; rintro e w1 ⟨⟨b, rfl, hI⟩, hB1⟩; have HI := Lib.hid hI; have HB1 := Lib.hid hB1; clear hI hB1)
  clear hre
  go_loop [7] (fun t => ∃ j : Nat, j ≤ i ∧ t = .int .i64 ((j : Int) - 1) ∧ Hid (upFrom (kidsL l) i i = upFrom (kidsL l) i j)) (fun t => (intOf t + 1).toNat)
  case atStart => exact ⟨i, Nat.le_refl _, rfl, Lib.hid rfl⟩
  case round =>
    obtain ⟨j, hj, rfl, HU⟩ := hrel
    cases j with
    | zero =>
      go_wp2
      go_ret
      exact ⟨ret_int (by rw [HU.out]; rfl), HB1.out⟩
    | succ j =>
      have e1 : ((j + 1 : Nat) : Int) - 1 = (j : Int) := by omega
      rw [e1]
      clear e1
      have hjn : j < n := by omega
      obtain ⟨gb, hgb, ce⟩ := HI.out j _ (endsL_at (K := kidsL l) (i := j) (by rw [HLK.out]; exact hjn))
      obtain rfl : b = gb := by cases hgb; rfl
      have HY : Hid ((i < endN (kidsL l) j → upFrom (kidsL l) i (j + 1) = j) ∧ (endN (kidsL l) j ≤ i → upFrom (kidsL l) i (j + 1) = upFrom (kidsL l) i j)) := Lib.hid ⟨up_yes, up_not⟩
      clear hgb
      by_cases hc : i < endN (kidsL l) j
      · have HZ := Lib.hid (HY.out.1 hc)
        go_wp2
        go_ret
        exact ⟨ret_int (by rw [HU.out, HZ.out]), HB1.out⟩
      · have HZ := Lib.hid (HY.out.2 (by omega))
        go_wp2
        go_round
        case rel => exact ⟨j, by omega, by first | rfl | go_num, Lib.hid (by rw [HU.out, HZ.out])⟩
        case measure => simp [intOf]
set_option maxHeartbeats 4000000 in
theorem rover_any (w : World) (a : Option Addr) (n cap : Nat) (l : List Nd) (hl : Nodes w a n l) (hn : n ≤ 2000) (t : Int) :
    Calls Try.prog 18 #[.slice a n cap, .int .i64 t] w fun e w' => e = .returned (.int .i64 (overN l t)) ∧ w = w' := by
  have hov : overN l t = overFrom l t n := by unfold overN; rw [hl.1]
  rw [hov]
  have HL := Lib.hid hl
  clear hl hov
  go_enter Try.func18, Try.ntmps18
  go_wp2
  go_loop [5, 6] (fun u v => ∃ j : Nat, j ≤ n ∧ v = .int .i64 j ∧ u = .int .i64 (overFrom l t j)) (fun _ v => n - (intOf v).toNat)
  case atStart => exact ⟨0, Nat.zero_le _, rfl, rfl⟩
  case round =>
    obtain ⟨j, hj, rfl, rfl⟩ := hrel
    by_cases hlt : j < n
    · have hx := nodes_some HL.out hlt
      obtain ⟨g, off, rfl, c0, c1, c2, c3, c4⟩ := HL.out.2 j _ hx
      have hz : (hasT t ((l.getD j nd0).lo, (l.getD j nd0).hi) = true) ↔ ((l.getD j nd0).lo ≤ t ∧ t < (l.getD j nd0).hi) := by simp [hasT]
      have HY : Hid (((l.getD j nd0).lo ≤ t ∧ t < (l.getD j nd0).hi → overFrom l t (j + 1) = j) ∧ (¬ ((l.getD j nd0).lo ≤ t ∧ t < (l.getD j nd0).hi) → overFrom l t (j + 1) = overFrom l t j)) :=
        Lib.hid ⟨fun h => over_yes (hz.2 h), fun h => over_not (fun e => h (hz.1 e))⟩
      generalize l.getD j nd0 = z at c3 c4 HY
      generalize overFrom l t j = o at HY ⊢
      clear hx hz c0 c1 c2
      by_cases h1 : z.lo ≤ t
      · by_cases h2 : t < z.hi
        · have HZ := Lib.hid (HY.out.1 ⟨h1, h2⟩)
          go_wp2
          go_round
          case rel => exact ⟨j + 1, by omega, by go_num, by rw [HZ.out]⟩
          case measure => simp [intOf]; omega
        · have HZ := Lib.hid (HY.out.2 (fun e => h2 e.2))
          go_wp2
          go_round
          case rel => exact ⟨j + 1, by omega, by go_num, by rw [HZ.out]⟩
          case measure => simp [intOf]; omega
      · have HZ := Lib.hid (HY.out.2 (fun e => h1 e.1))
        go_wp2
        go_round
        case rel => exact ⟨j + 1, by omega, by go_num, by rw [HZ.out]⟩
        case measure => simp [intOf]; omega
    · obtain rfl : j = n := by omega
      go_wp2
      go_ret
      exact ⟨rfl, rfl⟩
end Go.Proofs.Ytdlpminekojahaa
