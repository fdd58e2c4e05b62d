/-
  Layer 10: contracts of the laws TreeChecks and TreeKids.
-/
import Derived.Test.YtdlpminekojahaaP
namespace Go.Proofs.Ytdlpminekojahaa
open Go.ChangeShapes Go.WideShapes Go.ChangeAt Go.RowKit

set_option maxHeartbeats 4000000 in
theorem lawchecks_any (N : Int) (w : World) (a : Option Addr) (n cap : Nat) (l : List Nd) (hl : Nodes w a n l) (hK : KidsFit l) :
    Calls Try.prog 3 #[.slice a n cap, .int .i64 N] w fun e w' => e = .returned (.bool true) ∧ Below w.heap.size w w' := by
  by_cases hbig : 2000 < n
  · go_enter Try.func3, Try.ntmps3
    go_wp2_with (go_at_call 7; refine (fixed_any _).mono ?_; rintro e w1 ⟨rfl, hB⟩)
    go_ret
    exact ⟨rfl, hB⟩
  · have hn : n ≤ 2000 := by omega
    have h1 := fun w hl => check_any N w a n cap l hl (by omega) hK
    have h2 := fun w hl => rcheck_any N w a n cap l hl hn
    generalize checkN N l = c at h1 h2
    have HL := Lib.hid hl
    clear hl
    go_enter Try.func3, Try.ntmps3
    go_wp2_with (first
      | (go_at_call 7; refine (fixed_any _).mono ?_; rintro e w1 ⟨rfl, hB⟩; have HL1 := Lib.hid (nodes_below HL.out hB))
      | (go_at_call 8; refine (h1 _ HL1.out).mono ?_; rintro e w2 ⟨rfl, hB2⟩; have HL2 := Lib.hid (nodes_below HL1.out hB2))
      | (go_at_call 9; refine (h2 _ HL2.out).mono ?_; rintro e w3 ⟨rfl, hB3⟩))
    go_ret
    exact ⟨by simp, below_chain (below_chain hB hB2) hB3⟩
theorem up_kid {K : List Int} (hw : wellB K = true) {i k p m : Nat} {y : Int} (hy : K[i]? = some y) (hm : k + (m + 1) = y.toNat) (g : Goes K (i + 1) k p) : upN K p = i := by
  have hi := (List.getElem?_eq_some_iff.1 hy).1
  obtain ⟨g0, g1, g2⟩ := end_goes (well_goes.1 hw) (Nat.zero_le i) hi
  obtain ⟨y', hy', h0, g3⟩ := (goes_succ (n := 0)).1 g0
  rw [hy] at hy'; injection hy' with hy'; subst hy'
  rw [Nat.zero_add, ← hm] at g3
  obtain ⟨x, ga, gb⟩ := goes_add.1 g3
  obtain rfl := goes_fun ga g
  have h1 := goes_le gb
  have h2 := goes_le ga
  exact up_is _ (by omega) (by omega) (fun q h3 h4 => (end_goes ga (by omega) h4).2.2)
theorem up_root {K : List Int} : upN K 0 = -1 := rfl
set_option maxHeartbeats 8000000 in
theorem lawkids_any (w : World) (a : Option Addr) (n cap : Nat) (l : List Nd) (hl : Nodes w a n l) (hK : KidsFit l) :
    Calls Try.prog 6 #[.slice a n cap] w fun e w' => e = .returned (.bool true) ∧ Below w.heap.size w w' := by
  by_cases hbig : 100 < n
  · go_enter Try.func6, Try.ntmps6
    go_wp2_with (go_at_call 7; refine (fixed_any _).mono ?_; rintro e w1 ⟨rfl, hB⟩)
    go_ret
    exact ⟨rfl, hB⟩
  have hn : n ≤ 100 := by omega
  have h1 := fun w hl => check_any 131072 w a n cap l hl (by omega) hK
  cases ht : treeB 131072 l with
  | false =>
    have hc : checkN 131072 l = 8 := by unfold checkN; rw [if_neg (by decide), ht]; rfl
    rw [hc] at h1
    have HL := Lib.hid hl
    clear hl hc ht
    go_enter Try.func6, Try.ntmps6
    go_wp2_with (first
      | (go_at_call 8; refine (h1 _ HL.out).mono ?_; rintro e w2 ⟨rfl, hB2⟩)
      | (go_at_call 7; refine (fixed_any _).mono ?_; rintro e w1 ⟨rfl, hB⟩))
    go_ret
    exact ⟨rfl, below_chain hB2 hB⟩
  | true =>
    have hc : checkN 131072 l = 0 := by unfold checkN; rw [if_neg (by decide), ht]; rfl
    rw [hc] at h1
    have HT := Lib.hid ht
    have HW := Lib.hid (tree_well ht)
    have HL := Lib.hid hl
    have HLN := Lib.hid hl.1
    have HH : Hid (∀ i : Nat, i < n → hasN l (i : Int) = true) := Lib.hid (fun i hi => by unfold hasN; rw [decide_eq_true (by omega), decide_eq_true (by have := hl.1; omega), ht]; rfl)
    have HE := Lib.hid (fun w hl i => End_any w a n cap l hl (by omega) hK i)
    have HU := Lib.hid (fun w hl i => Up_any w a n cap l hl (by omega) hK i)
    have HKD := Lib.hid (fun w hl i => Kids_any w a n cap l hl (by omega) hK i)
    have HEI : Hid (∀ i : Nat, i < n → endI l (i : Int) = endN (kidsL l) i) := Lib.hid (fun i hi => by rw [endI, if_pos (HH.out i hi), Int.toNat_natCast])
    have HUI : Hid (∀ i : Nat, i < n → upI l (i : Int) = upN (kidsL l) i) := Lib.hid (fun i hi => by rw [upI, if_pos (HH.out i hi), Int.toNat_natCast])
    have HKI : Hid (∀ i : Nat, i < n → kidsI l (i : Int) = natsI (kidsN (kidsL l) i)) := Lib.hid (fun i hi => by rw [kidsI, if_pos (HH.out i hi), Int.toNat_natCast])
    clear hl hc ht
    go_enter Try.func6, Try.ntmps6
    go_wp2_with (go_at_call 8; refine (h1 _ HL.out).mono ?_; rintro e w1 ⟨rfl, hB1⟩; have HB1 := Lib.hid hB1; clear hB1)
    clear h1
    go_loopw [3, 4, 5, 6] (fun t _ _ _ wr => ∃ i : Nat, i ≤ n ∧ t = .int .i64 i ∧ Hid (Below w.heap.size w wr)) (fun t _ _ _ _ => n - (intOf t).toNat)
    case atStart => exact ⟨0, Nat.zero_le _, rfl, HB1⟩
    case round =>
      obtain ⟨i, hi, rfl, HB⟩ := hrel
      by_cases hlt : i < n
      · have hx := nodes_some (nodes_below HL.out HB.out) hlt
        obtain ⟨g0, o0, rfl, _, c1, _, _, _⟩ := (nodes_below HL.out HB.out).2 i _ hx
        have hg0 : g0 < wr.heap.size := cell_lt c1
        have hgo := tree_goes HT.out (i := i) (by rw [HLN.out]; exact hlt)
        have hky := kidsL_at l i _ hx
        have htk := tree_kids (l := l) (i := i) (by rw [HLN.out]; exact hlt)
        generalize (l.getD i nd0).kids = y at c1 hgo hky htk
        obtain ⟨m, rfl⟩ : ∃ m : Nat, y = m := ⟨y.toNat, by omega⟩
        rw [Int.toNat_natCast] at hgo htk
        have HG := Lib.hid hgo.1
        have HKY := Lib.hid hky
        have hei := hgo.2.1
        have hel := hgo.2.2.1
        rw [HLN.out] at hel
        have hmn : m ≤ 100 := by have := goes_le HG.out; omega
        have HKN : Hid (kidsI l (i : Int) = natsI (kidsFrom (kidsL l) m (i + 1))) := Lib.hid (by rw [HKI.out i hlt, htk])
        have hlm : (natsI (kidsFrom (kidsL l) m (i + 1))).length = m := by rw [natsI, List.length_map, kids_len]
        have HLM := Lib.hid hlm
        have q1 : ((m : Int) != m) = false := by simp
        clear hx hgo hky htk hlm
        have hkd := HKD.out wr (nodes_below HL.out HB.out) i
        rw [HKN.out] at hkd
        go_wp2_with (go_at_call 15; refine hkd.mono ?_; rintro e w2 ⟨⟨v, rfl, hM⟩, hB2⟩; obtain ⟨ka, kc, rfl, hI, _, _⟩ := mineI_ints hM; have HI := Lib.hid hI; have c1 := (hB2.cell (p := ⟨g0, o0 + i * 5 + 1, none⟩) hg0).trans c1; have HB2 := Lib.hid (below_chain HB.out hB2); rw [HLM.out]; clear hM hI hB2)
        clear hkd
        go_loopw [5, 6] (fun u t wr => ∃ (p k : Nat), p ≤ n ∧ k ≤ m ∧ u = .int .i64 p ∧ t = .int .i64 k ∧ Hid (Goes (kidsL l) (i + 1) k p) ∧ Hid (Goes (kidsL l) p (m - k) (endN (kidsL l) i)) ∧ Hid (∀ j, k ≤ j → (natsI (kidsFrom (kidsL l) m (i + 1)))[j]? = (natsI (kidsFrom (kidsL l) (m - k) p))[j - k]?) ∧ Hid (Below w2.heap.size w2 wr)) (fun _ t _ => m - (intOf t).toNat)
        case atStart => exact ⟨i + 1, 0, by omega, Nat.zero_le _, by go_num, rfl, Lib.hid (goes_zero _ _), by rw [Nat.sub_zero]; exact HG, Lib.hid (fun j _ => by rw [Nat.sub_zero, Nat.sub_zero]), Lib.hid (Below.refl _ _)⟩
        case round =>
          obtain ⟨p, k, hp, hk, rfl, rfl, HP, HQ, HJ, HB3⟩ := hrel
          have HB4 := Lib.hid (HB2.out.trans (HB3.out.mono HB2.out.size))
          by_cases hkm : k < m
          · obtain ⟨d, hd⟩ : ∃ d, m - k = d + 1 := ⟨m - k - 1, by omega⟩
            have hQ := HQ.out
            rw [hd] at hQ
            obtain ⟨g1, g2, g3⟩ := kids_end hQ
            rw [kidsL_len, HLN.out] at g3
            have hup := up_kid HW.out HKY.out (k := k) (m := d) (by rw [Int.toNat_natCast]; omega) HP.out
            have hkv := HJ.out k (Nat.le_refl _)
            rw [hd, Nat.sub_self] at hkv
            have hkv2 : (natsI (kidsFrom (kidsL l) m (i + 1)))[k]? = some (p : Int) := hkv
            obtain ⟨gk, rfl, ck⟩ := HI.out.below HB3.out k _ hkv2
            have hP2 : Goes (kidsL l) (i + 1) (k + 1) (endN (kidsL l) p) := goes_add.2 ⟨p, HP.out, g1⟩
            have HP2 := Lib.hid hP2
            have HQ2 : Hid (Goes (kidsL l) (endN (kidsL l) p) (m - (k + 1)) (endN (kidsL l) i)) := Lib.hid (by rw [show m - (k + 1) = d by omega]; exact g2)
            have HJ2 : Hid (∀ j, k + 1 ≤ j → (natsI (kidsFrom (kidsL l) m (i + 1)))[j]? = (natsI (kidsFrom (kidsL l) (m - (k + 1)) (endN (kidsL l) p)))[j - (k + 1)]?) := Lib.hid (fun j hj => by
              rw [HJ.out j (by omega), hd, show m - (k + 1) = d by omega, show j - k = (j - (k + 1)) + 1 by omega]; rfl)
            have hle := goes_le g2
            have hpe : endN (kidsL l) p ≤ n := by omega
            have hu := HU.out wr (nodes_below HL.out HB4.out) p
            rw [HUI.out p g3, hup] at hu
            have he := fun w hl => HE.out w hl p
            rw [HEI.out p g3] at he
            have q2 : ((p : Int) != p) = false := by simp
            have q3 : ((i : Int) != i) = false := by simp
            clear hQ g1 g2 hup hkv hkv2 hP2 hle hd
            go_wp2_with (first
              | (go_at_call 12; refine hu.mono ?_; rintro e w5 ⟨rfl, hB5⟩; have HB5 := Lib.hid (HB3.out.trans (hB5.mono HB3.out.size)); have HL5 := Lib.hid (nodes_below HL.out (below_chain HB4.out hB5)); clear hB5)
              | (go_at_call 11; refine (he _ HL5.out).mono ?_; rintro e w6 ⟨rfl, hB6⟩; have HB6 := Lib.hid (HB5.out.trans (hB6.mono HB5.out.size)); clear hB6))
            go_roundw
            case rel => exact ⟨endN (kidsL l) p, k + 1, hpe, by omega, rfl, by go_num, HP2, HQ2, HJ2, HB6⟩
            case measure => simp [intOf]; omega
          · have hkm2 : k = m := by omega
            have hQ := HQ.out
            rw [hkm2, Nat.sub_self] at hQ
            have hpe := goes_fun hQ (goes_zero _ _)
            have HPE := Lib.hid hpe
            have he := HE.out wr (nodes_below HL.out HB4.out) i
            rw [HEI.out i hlt, HPE.out] at he
            have q2 : ((p : Int) != p) = false := by simp
            clear hQ hpe
            go_wp2_with (go_at_call 11; refine he.mono ?_; rintro e w5 ⟨rfl, hB5⟩; have HB5 := Lib.hid (below_chain HB4.out hB5); clear hB5)
            go_roundw
            case rel => exact ⟨i + 1, by omega, by go_num, HB5⟩
            case measure => simp [intOf]; omega
      · have hin : i = n := by omega
        have hw0 := well_goes.1 HW.out
        have hwl := goes_le hw0
        rw [kidsL_len, HLN.out] at hw0 hwl
        have hn0 : 0 < n := by omega
        have he := fun w hl => HE.out w hl ((0 : Nat) : Int)
        rw [HEI.out 0 hn0, goes_end hw0] at he
        have hu := fun w hl => HU.out w hl ((0 : Nat) : Int)
        rw [HUI.out 0 hn0, up_root] at hu
        have HL1 := Lib.hid (nodes_below HL.out HB.out)
        clear hw0 hwl
        go_wp2_with (first
          | (go_at_call 7; refine (fixed_any _).mono ?_; rintro e w5 ⟨rfl, hB5⟩; have HB5 := Lib.hid (below_chain HB.out hB5); have HL5 := Lib.hid (nodes_below HL1.out hB5); clear hB5)
          | (go_at_call 11; refine (he _ HL5.out).mono ?_; rintro e w6 ⟨rfl, hB6⟩; have HB6 := Lib.hid (below_chain HB5.out hB6); have HL6 := Lib.hid (nodes_below HL5.out hB6); clear hB6)
          | (go_at_call 12; refine (hu _ HL6.out).mono ?_; rintro e w7 ⟨rfl, hB7⟩; have HB7 := Lib.hid (below_chain HB6.out hB7); clear hB7))
        go_ret
        exact ⟨by simp, HB7.out⟩
end Go.Proofs.Ytdlpminekojahaa
