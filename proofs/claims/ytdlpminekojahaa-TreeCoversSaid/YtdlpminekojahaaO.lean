/-
  Layer 10: contracts of the document's Depth and Own, and of Ints.
-/
import Derived.Test.YtdlpminekojahaaN
import Derived.Test.YtdlpminekojahaaM
namespace Go.Proofs.Ytdlpminekojahaa
open Go.ChangeShapes Go.WideShapes Go.ChangeAt Go.RowKit

set_option maxHeartbeats 8000000 in
theorem rdepth_any (w : World) (a : Option Addr) (n cap : Nat) (l : List Nd) (hl : Nodes w a n l) (hn : n ≤ 2000) (ht : wellB (kidsL l) = true) :
    Calls Try.prog 19 #[.slice a n cap] w fun e w' => e = .returned (.int .i64 (mostN (kidsL l) n)) ∧ Below w.heap.size w w' := by
  have HW := Lib.hid ht
  have HL := Lib.hid hl
  clear hl ht
  go_enter Try.func19, Try.ntmps19
  go_wp2
  go_loopw [3, 4, 5, 6] (fun mv t _ _ wr => ∃ i : Nat, i ≤ n ∧ t = .int .i64 i ∧ mv = .int .i64 (mostN (kidsL l) i) ∧ Hid (Below w.heap.size w wr)) (fun _ t _ _ _ => n - (intOf t).toNat)
  case atStart => exact ⟨0, Nat.zero_le _, rfl, rfl, Lib.hid (Below.refl _ _)⟩
  case round =>
    obtain ⟨i, hi, rfl, rfl, HB⟩ := hrel
    have hml := most_le (kidsL l) i
    have hdl := dep_le (kidsL l) i
    obtain ⟨M, hM⟩ : ∃ M, M = mostN (kidsL l) i := ⟨_, rfl⟩
    obtain ⟨d, hd⟩ : ∃ d, d = depN (kidsL l) i := ⟨_, rfl⟩
    have HM : Hid (mostN (kidsL l) (i + 1) = max M d) := Lib.hid (by rw [hM, hd]; rfl)
    have HC := Lib.hid (dep_chain (kidsL l) i)
    have HMM := Lib.hid hM
    rw [← hM] at hml ⊢
    rw [← hd] at hdl HC
    clear hM hd
    by_cases hlt : i < n
    · obtain ⟨d', hde, hc'⟩ := chain_pos HC.out (by omega)
      rw [Int.toNat_natCast] at hc'
      have HC1 := Lib.hid hc'
      have HU := Lib.hid (up_lt (kidsL l) i)
      clear hc'
      go_wp2_with (go_at_call 21; refine (rup_any _ a n cap l (nodes_below HL.out HB.out) hn HW.out i hlt).mono ?_; rintro e w1 ⟨rfl, hB1⟩; have HB1 := Lib.hid (below_chain HB.out hB1); clear hB1)
      go_loopw [5, 6] (fun u v wr => ∃ (x : Int) (c d2 : Nat), u = .int .i64 c ∧ v = .int .i64 x ∧ c + d2 = d ∧ x < n ∧ -1 ≤ x ∧ Hid (Chain (kidsL l) x d2) ∧ Hid (Below w.heap.size w wr)) (fun u _ _ => d - (intOf u).toNat)
      case atStart => exact ⟨_, 1, d', rfl, rfl, by omega, by have := HU.out; omega, by have := HU.out; omega, HC1, HB1⟩
      case round =>
        obtain ⟨x, c, d2, rfl, rfl, hcd, hx1, hx2, HX, HB2⟩ := hrel
        by_cases h0 : 0 ≤ x
        · obtain ⟨d3, hd3, hc3⟩ := chain_pos HX.out h0
          obtain ⟨k, rfl⟩ : ∃ k : Nat, x = k := ⟨x.toNat, by omega⟩
          rw [Int.toNat_natCast] at hc3
          have HC3 := Lib.hid hc3
          have HU3 := Lib.hid (up_lt (kidsL l) k)
          have hkn : k < n := by omega
          clear hc3
          go_wp2_with (go_at_call 21; refine (rup_any _ a n cap l (nodes_below HL.out HB2.out) hn HW.out k hkn).mono ?_; rintro e w3 ⟨rfl, hB3⟩; have HB3 := Lib.hid (below_chain HB2.out hB3); clear hB3)
          go_roundw
          case rel => exact ⟨_, c + 1, d3, by go_num, rfl, by omega, by have := HU3.out; omega, by have := HU3.out; omega, HC3, HB3⟩
          case measure => simp [intOf]; omega
        · have hz := chain_neg HX.out (by omega)
          have hcd2 : c = d := by omega
          clear hz
          go_wp2
          go_roundw
          case rel => exact ⟨i + 1, by omega, by go_num, by rw [HM.out]; congr 1; omega, HB2⟩
          case measure => simp [intOf]; omega
    · obtain rfl : i = n := by omega
      go_wp2
      go_ret
      exact ⟨ret_int (by rw [HMM.out]), HB.out⟩
set_option maxHeartbeats 4000000 in
theorem ints_any (w : World) (a b : Option Addr) (n m ca cb : Nat) (xs ys : List Int) (hx : IntsAt w a xs) (hy : IntsAt w b ys) (hxn : xs.length = n) (hym : ys.length = m) (hn : n ≤ maxLen) :
    Calls Try.prog 22 #[.slice a n ca, .slice b m cb] w fun e w' => e = .returned (.bool (decide (xs = ys))) ∧ Below w.heap.size w w' := by
  unfold maxLen at hn
  by_cases hnm : n = m
  · subst hnm
    have q1 : ((n : Int) != n) = false := by simp
    have HX := Lib.hid hxn
    have HY := Lib.hid hym
    clear hxn hym
    go_enter Try.func22, Try.ntmps22
    go_wp2
    go_loopw [5] (fun t wr => ∃ k : Nat, k ≤ n ∧ t = .int .i64 k ∧ Hid (xs.take k = ys.take k) ∧ Hid (Below w.heap.size w wr)) (fun t _ => n - (intOf t).toNat)
    case atStart => exact ⟨0, Nat.zero_le _, rfl, Lib.hid (by simp), Lib.hid (Below.refl _ _)⟩
    case round =>
      obtain ⟨k, hk, rfl, HT, HB⟩ := hrel
      by_cases hlt : k < n
      · obtain ⟨x, hxk⟩ : ∃ x, xs[k]? = some x := ⟨_, List.getElem?_eq_getElem (by have := HX.out; omega)⟩
        obtain ⟨y, hyk⟩ : ∃ y, ys[k]? = some y := ⟨_, List.getElem?_eq_getElem (by have := HY.out; omega)⟩
        obtain ⟨g, rfl, cx⟩ := hx.below HB.out k x hxk
        obtain ⟨h, rfl, cy⟩ := hy.below HB.out k y hyk
        have HXK := Lib.hid hxk
        have HYK := Lib.hid hyk
        have j0 : (0 : Int) ≤ k := by omega
        have j1 : (k : Int) < n := by omega
        clear hxk hyk
        by_cases hxy : x = y
        · have q2 : (x != y) = false := by simpa using hxy
          have HTK : Hid (xs.take (k + 1) = ys.take (k + 1)) := Lib.hid (by
            rw [List.take_add_one, List.take_add_one, HT.out, HXK.out, HYK.out, hxy])
          clear hxy
          go_wp2
          first | go_quiet (fail) | fail
          go_wp2
          go_roundw
          case rel => exact ⟨k + 1, by omega, by go_num, HTK, Lib.hid (below_drewN HB.out _)⟩
          case measure => simp [intOf]; omega
        · have q2 : (x != y) = true := by simpa using hxy
          have hne : decide (xs = ys) = false := decide_eq_false (fun e => hxy (by have h1 := HXK.out; have h2 := HYK.out; rw [e, h2] at h1; injection h1 with h1; exact h1.symm))
          have HNE := Lib.hid hne
          clear hxy hne
          go_wp2
          first | go_quiet (fail) | fail
          go_wp2
          go_ret
          exact ⟨ret_bool HNE.out.symm, below_drewN HB.out _⟩
      · have hkn : k = n := by omega
        have hE : xs = ys := by
          have := HT.out
          rw [List.take_of_length_le (by have := HX.out; omega), List.take_of_length_le (by have := HY.out; omega)] at this
          exact this
        have HE := Lib.hid (decide_eq_true hE)
        clear hE
        go_wp2
        go_ret
        exact ⟨ret_bool HE.out.symm, HB.out⟩
  · have q1 : ((n : Int) != m) = true := by simp; omega
    have HE : Hid (decide (xs = ys) = false) := Lib.hid (decide_eq_false (fun e => hnm (by rw [← hxn, ← hym, e])))
    clear hxn hym hx hy
    go_enter Try.func22, Try.ntmps22
    go_wp2
    go_ret
    exact ⟨ret_bool HE.out.symm, Below.refl _ _⟩
theorem any_take {α : Type} (p : α → Bool) (l : List α) (k : Nat) (x : α) (h : l[k]? = some x) : (l.take (k + 1)).any p = ((l.take k).any p || p x) := by
  rw [List.take_add_one, h, List.any_append]; simp
set_option maxHeartbeats 8000000 in
theorem rown_any (w : World) (a : Option Addr) (n cap : Nat) (l : List Nd) (hl : Nodes w a n l) (hn : n ≤ 2000) (ht : wellB (kidsL l) = true) (i : Nat) (hi : i < n) (hlo : -1000000 ≤ (l.getD i nd0).lo) (hhi : (l.getD i nd0).hi ≤ 1000000) :
    Calls Try.prog 24 #[.slice a n cap, .int .i64 i] w fun e w' => (∃ v, e = .returned v ∧ MineI w' w.heap.size v (ownN l i)) ∧ Below w.heap.size w w' := by
  have hre := rkids_any w a n cap l hl hn ht i hi
  have hg := tree_end1 ht (by rw [hl.1]; exact hi)
  have hkl : ∀ k ∈ kidsN (kidsL l) i, k < n := by
    rw [tree_kids (by rw [hl.1]; exact hi)]
    have := kids_lt hg.1
    rw [kidsL_len, hl.1] at this
    exact this
  have hkn : (kidsN (kidsL l) i).length ≤ n := by
    rw [tree_kids (by rw [hl.1]; exact hi), kids_len]
    have := goes_le hg.1
    have := hg.2.2
    have := hl.1
    omega
  obtain ⟨g0, o0, rfl, _, _, _, c3, c4⟩ := hl.2 i _ (nodes_some hl hi)
  have hg0 : g0 < w.heap.size := cell_lt c3
  have HC3 := Lib.hid c3
  have HC4 := Lib.hid c4
  have HL := Lib.hid hl
  have HR := Lib.hid (rest_first l i)
  have HRS := Lib.hid (fun t h => rest_step (l := l) (i := i) (t := t) h)
  have HKL := Lib.hid hkl
  obtain ⟨ks, hks⟩ : ∃ ks, ks = kidsN (kidsL l) i := ⟨_, rfl⟩
  rw [← hks] at hre hkn HKL
  have HKS := Lib.hid hks
  obtain ⟨lo, hlo2⟩ : ∃ x, x = (l.getD i nd0).lo := ⟨_, rfl⟩
  obtain ⟨hi2, hhi2⟩ : ∃ x, x = (l.getD i nd0).hi := ⟨_, rfl⟩
  rw [← hlo2] at hlo
  rw [← hhi2] at hhi
  have HLO := Lib.hid hlo2
  have HHI := Lib.hid hhi2
  obtain ⟨i0, hi0, hz0, hz1, hz2⟩ := info_parts info3
  have H1 := Lib.hid hi0
  have H2 := Lib.hid hz0
  have H3 := Lib.hid hz1
  have H4 := Lib.hid hz2
  clear hl ht hg hkl hks hlo2 hhi2 hi0 hz0 hz1 hz2
  go_enter Try.func24, Try.ntmps24
  go_wp2_with (go_at_call 23; refine hre.mono ?_; rintro e w1 ⟨⟨v, rfl, hM⟩, hB1⟩; obtain ⟨ka, kc, rfl, hIA, _, _⟩ := mineI_ints hM; have HI := Lib.hid hIA; have HB1 := Lib.hid hB1; have c3 := (hB1.cell (p := ⟨g0, o0 + i * 5 + 3, none⟩) hg0).trans c3; clear hM hIA hB1)
  clear hre
  have hkl2 : (natsI ks).length = ks.length := by simp [natsI]
  rw [hkl2]
  obtain ⟨q, hq⟩ : ∃ q, q = ks.length := ⟨_, rfl⟩
  rw [← hq] at hkn ⊢
  have HQ := Lib.hid hq
  clear hkl2 hq c3 c4
  go_loopw [6, 7, 8, 9] (fun v t _ _ wr => ∃ (x : Int) (xs : List Int), lo ≤ x ∧ (x ≤ hi2 ∨ x = lo) ∧ t = .int .i64 x ∧ (xs.length : Int) ≤ x - lo ∧ Hid (xs ++ restN l i x = ownN l i) ∧ Hid (MineI wr w1.heap.size v xs) ∧ Hid (Below w1.heap.size w1 wr)) (fun _ t _ _ _ => (hi2 - intOf t).toNat)
  case atStart => exact ⟨lo, [], Int.le_refl _, .inr rfl, by rw [HLO.out]; rfl, by simp, Lib.hid (by rw [HLO.out, HR.out]; rfl), Lib.hid (mineI_nil _ _), Lib.hid (Below.refl _ _)⟩
  case round =>
    obtain ⟨x, xs, hx1, hx2, rfl, hxl, HXR, HM, HB⟩ := hrel
    have HWR := Lib.hid (HB1.out.trans (HB.out.mono HB1.out.size))
    have c4 := (HWR.out.cell (p := ⟨g0, o0 + i * 5 + 4, none⟩) hg0).trans HC4.out
    rw [← HHI.out] at c4
    by_cases hlt : x < hi2
    · have hst := HRS.out x (by rw [← HHI.out]; exact hlt)
      rw [← HKS.out] at hst
      have HST := Lib.hid hst
      clear hst
      obtain ⟨wo, rfl⟩ : ∃ wo : World, wo = wr := ⟨_, rfl⟩
      go_wp2
      go_loop [8, 9] (fun u v => ∃ k : Nat, k ≤ q ∧ v = .int .i64 k ∧ u = .bool (!((ivs l (ks.take k)).any (hasT x)))) (fun _ v => q - (intOf v).toNat)
      case atStart => exact ⟨0, Nat.zero_le _, rfl, rfl⟩
      case round =>
        obtain ⟨k, hk, rfl, rfl⟩ := hrel
        by_cases hkq : k < q
        · obtain ⟨c, hc⟩ : ∃ c, ks[k]? = some c := ⟨_, List.getElem?_eq_getElem (by have := HQ.out; omega)⟩
          have hcn := HKL.out c (List.mem_of_getElem? hc)
          obtain ⟨gk, rfl, ck⟩ := HI.out.below HB.out k (c : Int) (by unfold natsI; rw [List.getElem?_map, hc]; rfl)
          obtain ⟨gg, go, hga, y0, y1, y2, y3, y4⟩ := (nodes_below HL.out HWR.out).2 c _ (nodes_some (nodes_below HL.out HWR.out) hcn)
          cases hga
          have HA : Hid ((ivs l (ks.take (k + 1))).any (hasT x) = ((ivs l (ks.take k)).any (hasT x) || hasT x ((l.getD c nd0).lo, (l.getD c nd0).hi))) := Lib.hid (by
            unfold ivs
            rw [List.map_take, List.map_take]
            exact any_take _ _ k _ (by rw [List.getElem?_map, hc]; rfl))
          generalize (ivs l (ks.take k)).any (hasT x) = B at HA ⊢
          generalize l.getD c nd0 = y at y3 y4 HA
          have hsay : (hasT x (y.lo, y.hi) = true) ↔ (y.lo ≤ x ∧ x < y.hi) := by simp [hasT]
          have HSAY := Lib.hid hsay
          have j0 : (0 : Int) ≤ c := by omega
          have j1 : (c : Int) < n := by omega
          have j2 : (0 : Int) ≤ k := by omega
          have j3 : (k : Int) < q := by omega
          clear hc y0 y1 y2 hsay
          by_cases h1 : y.lo ≤ x
          · by_cases h2 : x < y.hi
            · have HT := Lib.hid (HSAY.out.2 ⟨h1, h2⟩)
              go_wp2
              go_round
              case rel => exact ⟨k + 1, by omega, by go_num, by rw [HA.out, HT.out]; simp⟩
              case measure => simp [intOf]; omega
            · have HT : Hid (hasT x (y.lo, y.hi) = false) := Lib.hid (by rw [Bool.eq_false_iff, Ne, HSAY.out]; omega)
              go_wp2
              go_round
              case rel => exact ⟨k + 1, by omega, by go_num, by rw [HA.out, HT.out]; simp⟩
              case measure => simp [intOf]; omega
          · have HT : Hid (hasT x (y.lo, y.hi) = false) := Lib.hid (by rw [Bool.eq_false_iff, Ne, HSAY.out]; omega)
            go_wp2
            go_round
            case rel => exact ⟨k + 1, by omega, by go_num, by rw [HA.out, HT.out]; simp⟩
            case measure => simp [intOf]; omega
        · have hkq2 : k = q := by omega
          have hfin : ks.take k = ks := List.take_of_length_le (by have := HQ.out; omega)
          rw [hfin]
          have HST2 := HST.out
          generalize (ivs l ks).any (hasT x) = B at HST2 ⊢
          cases B with
          | true =>
            rw [if_pos rfl] at HST2
            have HXR2 : Hid (xs ++ restN l i (x + 1) = ownN l i) := Lib.hid (by have := HXR.out; rw [HST2] at this; exact this)
            clear HST2 hfin hkq2
            go_wp2
            go_roundw
            case rel => exact ⟨x + 1, xs, by omega, .inl (by omega), by first | rfl | go_num, by omega, HXR2, HM, HB⟩
            case measure => simp [intOf]; omega
          | false =>
            rw [if_neg (by decide)] at HST2
            have HXR2 : Hid ((xs ++ [x]) ++ restN l i (x + 1) = ownN l i) := Lib.hid (by have := HXR.out; rw [HST2] at this; rw [List.append_assoc]; exact this)
            have hob := fun q hq => (HM.out.lt q hq).1
            clear HST2 hfin hkq2
            go_wp2_with (at_builtin; refine wpList_append_own _ rfl _ _ 30 rfl w1.heap.size 3 i0 (.int .i64 0) 1 8 Try.underlying30 H1.out H2.out H3.out H4.out rfl (by decide) _ _ _ rfl (HM.out.alloc _) ⟨_, 0, none⟩ 1 1 [.int .i64 x] rfl rfl (one_new _ _ _) (by intro u hu; simp at hu; subst hu; rfl) (by unfold maxLen; omega) (by omega) (by have := HB.out.size; simp; omega) ?_)
            intro v7 w7 hown7 hg7 _
            have HM7 : Hid (MineI w7 w1.heap.size v7 (xs ++ [x])) := Lib.hid (mineI_snoc hown7)
            have hB7 : Below w1.heap.size wo w7 := ((Below.refl _ wo).alloc HB.out.size _).grown hg7 (by have := HB.out.size; simp; omega) hob
            have HB7 := Lib.hid (HB.out.trans hB7)
            clear hown7 hg7 hob hB7
            go_wp2
            go_roundw
            case rel => exact ⟨x + 1, xs ++ [x], by omega, .inl (by omega), by first | rfl | go_num, by simp; omega, HXR2, HM7, HB7⟩
            case measure => simp [intOf]; omega
    · have hre : restN l i x = [] := by unfold restN; rw [tokens_none (by rw [← HHI.out]; omega)]; rfl
      have hxe := HXR.out
      rw [hre, List.append_nil] at hxe
      have hM := HM.out
      rw [hxe] at hM
      have HM9 := Lib.hid (mineI_mono hM HB1.out.size)
      clear hxe hre hM
      go_wp2
      go_ret
      exact ⟨⟨_, rfl, HM9.out⟩, HWR.out⟩
end Go.Proofs.Ytdlpminekojahaa
