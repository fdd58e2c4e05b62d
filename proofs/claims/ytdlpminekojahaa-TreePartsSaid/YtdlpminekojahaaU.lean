/-
  Layer 10: contract of the law TreeParts.
-/
import Derived.Test.YtdlpminekojahaaQ
namespace Go.Proofs.Ytdlpminekojahaa
open Go.ChangeShapes Go.WideShapes Go.ChangeAt Go.RowKit

set_option maxHeartbeats 8000000 in
theorem wide_any (w : World) (a : Option Addr) (n cap : Nat) (l : List Nd) (hl : Nodes w a n l) (hn : n ≤ maxLen) :
    Calls Try.prog 10 #[.slice a n cap] w fun e w' => (∃ b, e = .returned (.bool b) ∧ (b = false → n ≤ 200)) ∧ Below w.heap.size w w' := by
  unfold maxLen at hn
  have HL := Lib.hid hl
  clear hl
  go_enter Try.func10, Try.ntmps10
  go_wp2
  go_loopw [3] (fun t wr => ∃ k : Nat, k ≤ n ∧ t = .int .i64 k ∧ Hid (Below w.heap.size w wr)) (fun t _ => n - (intOf t).toNat)
  case atStart => exact ⟨0, Nat.zero_le _, rfl, Lib.hid (Below.refl _ _)⟩
  case round =>
    obtain ⟨k, hk, rfl, HB⟩ := hrel
    by_cases hlt : k < n
    · have hx := nodes_some (nodes_below HL.out HB.out) hlt
      obtain ⟨g, off, rfl, c0, c1, c2, c3, c4⟩ := (nodes_below HL.out HB.out).2 k _ hx
      generalize l.getD k nd0 = x at c3 c4
      obtain ⟨D, hD⟩ : ∃ D, IntKind.i64.wrap (x.hi - x.lo) = D := ⟨_, rfl⟩
      have j0 : (0 : Int) ≤ k := by omega
      have j1 : (k : Int) < n := by omega
      clear hx c0 c1 c2
      by_cases h1 : 0 ≤ x.lo
      · have d1 : decide (0 ≤ x.lo) = true := decide_eq_true h1
        by_cases h2 : x.hi ≤ 131072
        · have d2 : decide (x.hi ≤ 131072) = true := decide_eq_true h2
          clear h1 h2
          by_cases h3 : 2000 < D
          · have d3 : decide (2000 < D) = true := decide_eq_true h3
            clear h3
            go_wp2
            first | go_quiet (fail) | fail
            go_wp2
            go_ret
            exact ⟨⟨true, rfl, fun h => by cases h⟩, below_drewN HB.out _⟩
          · have d3 : decide (2000 < D) = false := decide_eq_false h3
            clear h3
            go_wp2
            first | go_quiet (fail) | fail
            go_wp2
            go_roundw
            case rel => exact ⟨k + 1, by omega, by go_num, Lib.hid (below_drewN HB.out _)⟩
            case measure => simp [intOf]; omega
        · have d2 : decide (x.hi ≤ 131072) = false := decide_eq_false h2
          clear h1 h2
          go_wp2
          first | go_quiet (fail) | fail
          go_wp2
          go_roundw
          case rel => exact ⟨k + 1, by omega, by go_num, Lib.hid (below_drewN HB.out _)⟩
          case measure => simp [intOf]; omega
      · have d1 : decide (0 ≤ x.lo) = false := decide_eq_false h1
        clear h1
        go_wp2
        first | go_quiet (fail) | fail
        go_wp2
        go_roundw
        case rel => exact ⟨k + 1, by omega, by go_num, Lib.hid (below_drewN HB.out _)⟩
        case measure => simp [intOf]; omega
    · have hHB := HB
      by_cases hb : 200 < n
      · go_wp2
        go_ret
        exact ⟨⟨true, by simp; omega, fun h => by cases h⟩, HB.out⟩
      · go_wp2
        go_ret
        exact ⟨⟨false, by simp; omega, fun _ => by omega⟩, HB.out⟩
theorem endZ_well {K : List Int} (h : wellB K = true) {i : Nat} (hi : i < K.length) : endZ K i = endN K i := by
  obtain ⟨g, _⟩ := end_goes (well_goes.1 h) (Nat.zero_le i) hi
  rcases endZ_cases K i with ⟨e, h1, g2, _⟩ | ⟨_, g2⟩
  · rw [h1, goes_end g2]
  · exact absurd g (g2 _)
set_option maxRecDepth 100000 in
set_option maxHeartbeats 16000000 in
theorem lawparts_any (i t : Int) (w : World) (a : Option Addr) (n cap : Nat) (l : List Nd) (hl : Nodes w a n l) (hK : KidsFit l) (hnm : n ≤ maxLen) :
    Calls Try.prog 4 #[.slice a n cap, .int .i64 i, .int .i64 t] w fun e w' => e = .returned (.bool true) ∧ Below w.heap.size w w' := by
  have hwd := wide_any w a n cap l hl hnm
  have HL := Lib.hid hl
  have HLN := Lib.hid hl.1
  clear hl
  go_enter Try.func4, Try.ntmps4
  go_wp2_with fail
  refine hwd.mono ?_
  rintro e w1 ⟨⟨b, rfl, hb⟩, hB1⟩
  have HL1 := Lib.hid (nodes_below HL.out hB1)
  have HB1 := Lib.hid hB1
  clear hB1 hwd
  cases b with
  | true =>
    clear hb
    go_wp2_with (go_at_call 7; refine (fixed_any _).mono ?_; rintro e w2 ⟨rfl, hB⟩; have HB2 := Lib.hid (below_chain HB1.out hB); clear hB)
    go_ret
    exact ⟨rfl, HB2.out⟩
  | false =>
    have hn : n ≤ 200 := hb rfl
    clear hb hnm
    obtain ⟨E, hE⟩ : ∃ E, E = endI l i := ⟨_, rfl⟩
    obtain ⟨U, hU⟩ : ∃ U, U = upI l i := ⟨_, rfl⟩
    obtain ⟨V, hV⟩ : ∃ V, V = overI l t := ⟨_, rfl⟩
    obtain ⟨D, hD⟩ : ∃ D, D = depthI l := ⟨_, rfl⟩
    obtain ⟨xs, hxs⟩ : ∃ xs, xs = kidsI l i := ⟨_, rfl⟩
    obtain ⟨ys, hys⟩ : ∃ ys, ys = ownI l i := ⟨_, rfl⟩
    have f1 := fun w hl => End_any w a n cap l hl (by omega) hK i
    have f2 := fun w hl => Up_any w a n cap l hl (by omega) hK i
    have f3 := fun w hl => Over_any w a n cap l hl (by omega) hK t
    have f4 := fun w hl => Depth_any w a n cap l hl (by omega) hK
    have f5 := fun w hl => Kids_any w a n cap l hl (by omega) hK i
    have f6 := fun w hl => Own_any w a n cap l hl (by omega) hK i
    have f7 := fun w hl => rtree_any 131072 w a n cap l hl (by omega)
    rw [← hE] at f1
    rw [← hU] at f2
    rw [← hV] at f3
    rw [← hD] at f4
    rw [← hxs] at f5
    rw [← hys] at f6
    have HE := Lib.hid hE
    have HU := Lib.hid hU
    have HV := Lib.hid hV
    have HD := Lib.hid hD
    have HX := Lib.hid hxs
    have HY := Lib.hid hys
    clear hE hU hV hD hxs hys
    go_wp2_with fail
    refine (f1 _ HL1.out).mono ?_
    rintro e w2 ⟨rfl, hB⟩
    have HL2 := Lib.hid (nodes_below HL1.out hB)
    have HB2 := Lib.hid (below_chain HB1.out hB)
    clear hB
    go_wp2_with fail
    refine (f2 _ HL2.out).mono ?_
    rintro e w3 ⟨rfl, hB⟩
    have HL3 := Lib.hid (nodes_below HL2.out hB)
    have HB3 := Lib.hid (below_chain HB2.out hB)
    clear hB
    go_wp2_with fail
    refine (f3 _ HL3.out).mono ?_
    rintro e w4 ⟨rfl, hB⟩
    have HL4 := Lib.hid (nodes_below HL3.out hB)
    have HB4 := Lib.hid (below_chain HB3.out hB)
    clear hB
    go_wp2_with fail
    refine (f4 _ HL4.out).mono ?_
    rintro e w5 ⟨rfl, hB⟩
    have HL5 := Lib.hid (nodes_below HL4.out hB)
    have HB5 := Lib.hid (below_chain HB4.out hB)
    clear hB
    go_wp2_with fail
    refine (f5 _ HL5.out).mono ?_
    rintro e w6 ⟨⟨v6, rfl, hM6⟩, hB⟩
    have HL6 := Lib.hid (nodes_below HL5.out hB)
    have HB6 := Lib.hid (below_chain HB5.out hB)
    obtain ⟨xa, xc, rfl, hI6, hxm, _⟩ := mineI_ints hM6
    have HI6 := Lib.hid hI6
    clear hM6 hI6
    clear hB
    go_wp2_with fail
    refine (f6 _ HL6.out).mono ?_
    rintro e w7 ⟨⟨v7, rfl, hM7⟩, hB⟩
    have HL7 := Lib.hid (nodes_below HL6.out hB)
    have HB7 := Lib.hid (below_chain HB6.out hB)
    obtain ⟨ya, yc, rfl, hI7, hym, _⟩ := mineI_ints hM7
    have HI7 := Lib.hid hI7
    have HI6 := Lib.hid (HI6.out.below hB)
    clear hM7 hI7
    clear hB
    go_wp2_with fail
    refine (f7 _ HL7.out).mono ?_
    rintro e w8 ⟨rfl, hB⟩
    have HL8 := Lib.hid (nodes_below HL7.out hB)
    have HB8 := Lib.hid (below_chain HB7.out hB)
    have HI6 := Lib.hid (HI6.out.below hB)
    have HI7 := Lib.hid (HI7.out.below hB)
    clear hB
    clear f1 f2 f3 f4 f5 f6 f7
    cases ht : treeB 131072 l with
    | false =>
      have hh : hasN l i = false := by unfold hasN; rw [ht]; simp
      have e1 : E = -1 := by rw [HE.out, endI, if_neg (by rw [hh]; decide)]
      have e2 : U = -1 := by rw [HU.out, upI, if_neg (by rw [hh]; decide)]
      have e3 : V = -1 := by rw [HV.out, overI, if_neg (by rw [ht]; decide)]
      have e4 : D = 0 := by rw [HD.out, depthI, if_neg (by rw [ht]; decide)]
      have e5 : xs = [] := by rw [HX.out, kidsI, if_neg (by rw [hh]; decide)]
      have e6 : ys = [] := by rw [HY.out, ownI, if_neg (by rw [hh]; decide)]
      subst e1 e2 e3 e4 e5 e6
      clear hh ht
      simp only [List.length_nil]
      go_wp2_with (go_at_call 7; refine (fixed_any _).mono ?_; rintro e w9 ⟨rfl, hB⟩; have HB9 := Lib.hid (below_chain HB8.out hB); clear hB)
      go_ret
      exact ⟨by simp, HB9.out⟩
    | true =>
      have hw := tree_well ht
      have e3 : V = overN l t := by rw [HV.out, overI, if_pos ht]
      have e4 : D = mostN (kidsL l) n := by rw [HD.out, depthI, if_pos ht, HLN.out]
      have f8 := fun w hl => rover_any w a n cap l hl (by omega) t
      have f9 := fun w hl => rdepth_any w a n cap l hl (by omega) hw
      rw [← e3] at f8
      rw [← e4] at f9
      have q8 : (V != V) = false := by simp
      have q9 : (D != D) = false := by simp
      clear e3 e4
      go_wp2_with fail
      refine (f8 _ HL8.out).mono ?_
      rintro e w9 ⟨rfl, rfl⟩
      go_wp2_with fail
      refine (f9 _ HL8.out).mono ?_
      rintro e w10 ⟨rfl, hB⟩
      have HL10 := Lib.hid (nodes_below HL8.out hB)
      have HB10 := Lib.hid (below_chain HB8.out hB)
      have HI6 := Lib.hid (HI6.out.below hB)
      have HI7 := Lib.hid (HI7.out.below hB)
      clear hB f8 f9
      by_cases hi : 0 ≤ i ∧ i < n
      · obtain ⟨k, rfl⟩ : ∃ k : Nat, i = k := ⟨i.toNat, by omega⟩
        have hkn : k < n := by omega
        have hh : hasN l (k : Int) = true := by unfold hasN; rw [decide_eq_true (by omega), decide_eq_true (by rw [HLN.out]; omega), ht]; rfl
        have e1 : E = endZ (kidsL l) k := by rw [HE.out, endI, if_pos hh, Int.toNat_natCast, endZ_well hw (by rw [kidsL_len, HLN.out]; exact hkn)]
        have e2 : U = upN (kidsL l) k := by rw [HU.out, upI, if_pos hh, Int.toNat_natCast]
        have e5 : xs = natsI (kidsN (kidsL l) k) := by rw [HX.out, kidsI, if_pos hh, Int.toNat_natCast]
        have e6 : ys = ownN l k := by rw [HY.out, ownI, if_pos hh, Int.toNat_natCast]
        have hsf := self_lo (tree_at ht (i := k) (by rw [HLN.out]; exact hkn)).1
        have f1 := fun w hl => rend_any w a n cap l hl (by omega) k (by omega)
        have f2 := fun w hl => rup_any w a n cap l hl (by omega) hw k hkn
        have f5 := fun w hl => rkids_any w a n cap l hl (by omega) hw k hkn
        have f6 := fun w hl => rown_any w a n cap l hl (by omega) hw k hkn (by omega) (by omega)
        rw [← e1] at f1
        rw [← e2] at f2
        rw [← e5] at f5
        rw [← e6] at f6
        have q1 : (E == E) = true := by simp
        have q2 : (U == U) = true := by simp
        clear e1 e2 e5 e6 hh hsf ht hi
        go_wp2_with fail
        refine (fixed_any _).mono ?_
        rintro e w11 ⟨rfl, hB⟩
        have HL11 := Lib.hid (nodes_below HL10.out hB)
        have HB11 := Lib.hid (below_chain HB10.out hB)
        have HI6 := Lib.hid (HI6.out.below hB)
        have HI7 := Lib.hid (HI7.out.below hB)
        clear hB
        go_wp2_with fail
        refine (f1 _ HL11.out).mono ?_
        rintro e w12 ⟨rfl, rfl⟩
        go_wp2_with fail
        refine (f2 _ HL11.out).mono ?_
        rintro e w13 ⟨rfl, hB⟩
        have HL13 := Lib.hid (nodes_below HL11.out hB)
        have HB13 := Lib.hid (below_chain HB11.out hB)
        have HI6 := Lib.hid (HI6.out.below hB)
        have HI7 := Lib.hid (HI7.out.below hB)
        clear hB
        go_wp2_with fail
        refine (f5 _ HL13.out).mono ?_
        rintro e w14 ⟨⟨v14, rfl, hM14⟩, hB⟩
        obtain ⟨za, zc, rfl, hI14, _, _⟩ := mineI_ints hM14
        have HI14 := Lib.hid hI14
        have HL14 := Lib.hid (nodes_below HL13.out hB)
        have HB14 := Lib.hid (below_chain HB13.out hB)
        have HI6 := Lib.hid (HI6.out.below hB)
        have HI7 := Lib.hid (HI7.out.below hB)
        clear hB hM14 hI14
        go_wp2_with fail
        refine (ints_any _ xa za xs.length xs.length xc zc xs xs HI6.out HI14.out rfl rfl hxm).mono ?_
        rintro e w15 ⟨rfl, hB⟩
        have HL15 := Lib.hid (nodes_below HL14.out hB)
        have HB15 := Lib.hid (below_chain HB14.out hB)
        have HI7 := Lib.hid (HI7.out.below hB)
        clear hB
        rw [show decide (xs = xs) = true from decide_eq_true rfl]
        go_wp2_with fail
        refine (f6 _ HL15.out).mono ?_
        rintro e w16 ⟨⟨v16, rfl, hM16⟩, hB⟩
        obtain ⟨ua, uc, rfl, hI16, _, _⟩ := mineI_ints hM16
        have HI16 := Lib.hid hI16
        have HB16 := Lib.hid (below_chain HB15.out hB)
        have HI7 := Lib.hid (HI7.out.below hB)
        clear hB hM16 hI16
        go_wp2_with fail
        refine (ints_any _ ya ua ys.length ys.length yc uc ys ys HI7.out HI16.out rfl rfl hym).mono ?_
        rintro e w17 ⟨rfl, hB⟩
        have HB17 := Lib.hid (below_chain HB16.out hB)
        clear hB
        rw [show decide (ys = ys) = true from decide_eq_true rfl]
        go_wp2_with fail
        go_ret
        exact ⟨by simp, HB17.out⟩
      · have hh : hasN l i = false := by
          unfold hasN
          by_cases h0 : 0 ≤ i
          · rw [decide_eq_false (p := i < l.length) (by have := HLN.out; omega)]; simp
          · rw [decide_eq_false (p := 0 ≤ i) h0]; simp
        have e1 : E = -1 := by rw [HE.out, endI, if_neg (by rw [hh]; decide)]
        have e2 : U = -1 := by rw [HU.out, upI, if_neg (by rw [hh]; decide)]
        have e5 : xs = [] := by rw [HX.out, kidsI, if_neg (by rw [hh]; decide)]
        have e6 : ys = [] := by rw [HY.out, ownI, if_neg (by rw [hh]; decide)]
        subst e1 e2 e5 e6
        have hcase : i < 0 ∨ (¬ i < 0 ∧ (n : Int) ≤ i) := by omega
        clear hh ht hi hw
        simp only [List.length_nil]
        rcases hcase with h | ⟨h, h'⟩
        all_goals
          go_wp2_with (go_at_call 7; refine (fixed_any _).mono ?_; rintro e w11 ⟨rfl, hB⟩; have HB11 := Lib.hid (below_chain HB10.out hB); clear hB)
          go_ret
          exact ⟨by simp, HB11.out⟩
end Go.Proofs.Ytdlpminekojahaa
