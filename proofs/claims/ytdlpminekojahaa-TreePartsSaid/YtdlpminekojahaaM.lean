/-
  Layer 10: contracts of the document's Tree and Check.
-/
import Derived.Test.YtdlpminekojahaaL
namespace Go.Proofs.Ytdlpminekojahaa
open Go.ChangeShapes Go.WideShapes Go.ChangeAt Go.RowKit

theorem ends_none {K : List Int} (h : wellB K = false) (hp : 0 < K.length) : endZ K 0 ≠ K.length := by
  rcases endZ_cases K 0 with ⟨e, h1, g, _⟩ | ⟨h1, _⟩
  · intro he
    have : wellB K = true := well_goes.2 (by rw [h1] at he; have : e = K.length := by omega
                                             rw [this] at g; exact g)
    rw [h] at this; cases this
  · rw [h1]; omega
set_option maxHeartbeats 4000000 in
theorem rends_no (w : World) (a : Option Addr) (n cap : Nat) (l : List Nd) (hl : Nodes w a n l) (hn : n ≤ 2000) (ht : wellB (kidsL l) = false) :
    Calls Try.prog 32 #[.slice a n cap] w fun e w' => e = .returned (.tuple #[.slice none 0 0, .bool false]) ∧ w = w' := by
  have hre := rend_any w a n cap l hl hn 0 (Nat.zero_le _)
  have hz : 0 < n → endZ (kidsL l) 0 ≠ n := fun hp => by
    have h1 : (kidsL l).length = n := by rw [kidsL_len]; exact hl.1
    have := ends_none ht (by omega)
    rw [h1] at this; exact this
  generalize endZ (kidsL l) 0 = z at hre hz
  clear hl ht
  by_cases hp : n = 0
  · subst hp
    go_enter Try.func32, Try.ntmps32
    go_wp2
    go_ret2
    exact ⟨rfl, rfl⟩
  · have q0 : ((n : Int) == 0) = false := by simp; omega
    have q1 : (z != n) = true := by simpa using hz (by omega)
    clear hz hp
    go_enter Try.func32, Try.ntmps32
    go_wp2_with (go_at_call 20; refine hre.mono ?_; rintro e w1 ⟨rfl, rfl⟩)
    go_ret2
    exact ⟨rfl, rfl⟩
theorem chain_step {l : List Nd} {w hi lo : Int} {k m e : Nat} (h : Goes (kidsL l) k (m + 1) e) :
    chainB w hi lo (m + 1) (l.drop k) = (kinB w hi lo (l.getD k nd0) && chainB w hi (l.getD k nd0).hi m (l.drop (endN (kidsL l) k))) := by
  obtain ⟨g1, _, hk⟩ := kids_end h
  rw [kidsL_len] at hk
  have hd : l.getD k nd0 = l[k] := by simp [List.getD, List.getElem?_eq_getElem hk]
  rw [List.drop_eq_getElem_cons hk, hd]
  simp only [chainB]
  congr 2
  obtain ⟨y, hy, h0, q, hq, e'⟩ := (goes_succ (n := 0)).1 g1
  rw [kidsL_at l k _ (List.getElem?_eq_getElem hk)] at hy
  injection hy with hy
  rw [Nat.zero_add, ← hy] at hq
  rw [kidsL_drop, hq, List.drop_drop, e']; rfl
theorem kin_say (w hi lo : Int) (y : Nd) : kinB w hi lo y = true ↔ lo ≤ y.lo ∧ y.lo ≤ y.hi ∧ y.hi ≤ hi ∧ ¬ (y.lo ≤ w ∧ w < y.hi) := by
  unfold kinB
  simp only [Bool.and_eq_true, decide_eq_true_eq, Bool.not_eq_true', Bool.and_eq_false_iff, decide_eq_false_iff_not]
  omega
theorem kin_no {w hi lo : Int} {y : Nd} (h : ¬ (lo ≤ y.lo ∧ y.lo ≤ y.hi ∧ y.hi ≤ hi ∧ ¬ (y.lo ≤ w ∧ w < y.hi))) : kinB w hi lo y = false := by
  rw [Bool.eq_false_iff, Ne, kin_say]; exact h
theorem self_say (n : Int) (x : Nd) : selfB n x = true ↔ x.kind ≤ 68 ∧ 0 ≤ x.lo ∧ x.lo ≤ x.hi ∧ x.hi ≤ n ∧ (x.word = -1 ∨ (x.lo ≤ x.word ∧ x.word < x.hi)) := by
  unfold selfB
  simp only [Bool.and_eq_true, Bool.or_eq_true, decide_eq_true_eq]
  omega
theorem self_no {n : Int} {x : Nd} (h : ¬ (x.kind ≤ 68 ∧ 0 ≤ x.lo ∧ x.lo ≤ x.hi ∧ x.hi ≤ n ∧ (x.word = -1 ∨ (x.lo ≤ x.word ∧ x.word < x.hi)))) : selfB n x = false := by
  rw [Bool.eq_false_iff, Ne, self_say]; exact h
theorem tree_end1 {l : List Nd} (h : wellB (kidsL l) = true) {i : Nat} (hi : i < l.length) :
    Goes (kidsL l) (i + 1) (l.getD i nd0).kids.toNat (endN (kidsL l) i) ∧ i < endN (kidsL l) i ∧ endN (kidsL l) i ≤ l.length := by
  have hw := well_goes.1 h
  rw [kidsL_len] at hw
  obtain ⟨g, a, b⟩ := end_goes hw (Nat.zero_le i) hi
  obtain ⟨k, hk, h0, g2⟩ := (goes_succ (n := 0)).1 g
  have hd : l.getD i nd0 = l[i] := by simp [List.getD, List.getElem?_eq_getElem hi]
  rw [kidsL_at l i _ (List.getElem?_eq_getElem hi)] at hk
  injection hk with hk
  rw [hd, hk]
  rw [Nat.zero_add] at g2
  exact ⟨g2, a, b⟩
theorem refN_step {n : Int} {l : List Nd} {i : Nat} (hi : i < l.length) : refN n (l.length - i) (l.drop i) = (selfB n (l.getD i nd0) && chainB (l.getD i nd0).word (l.getD i nd0).hi (l.getD i nd0).lo (l.getD i nd0).kids.toNat (l.drop (i + 1)) && refN n (l.length - (i + 1)) (l.drop (i + 1))) := by
  have hd : l.getD i nd0 = l[i] := by simp [List.getD, List.getElem?_eq_getElem hi]
  rw [List.drop_eq_getElem_cons hi, hd, show l.length - i = (l.length - (i + 1)) + 1 by omega]; rfl
set_option maxRecDepth 100000 in
set_option maxHeartbeats 16000000 in
theorem rtree_yes (N : Int) (w : World) (a : Option Addr) (n cap : Nat) (l : List Nd) (hl : Nodes w a n l) (hn : n ≤ 2000) (ht : wellB (kidsL l) = true) :
    Calls Try.prog 17 #[.slice a n cap, .int .i64 N] w fun e w' => e = .returned (.bool (refN N n l)) ∧ Below w.heap.size w w' := by
  have hre := rends_any w a n cap l hl hn ht
  have HLN := Lib.hid hl.1
  have HW := Lib.hid ht
  have HL := Lib.hid hl
  clear hl ht
  go_enter Try.func17, Try.ntmps17
  go_wp2_with (go_at_call 32; refine hre.mono ?_; rintro e w1 ⟨⟨b, rfl, hI⟩, hB1⟩; have HI := Lib.hid hI; have HB1 := Lib.hid hB1; clear hI hB1)
  clear hre
  have HR0 : Hid (refN N n l = refN N (n - 0) (l.drop 0)) := Lib.hid rfl
  go_loopw [7, 8, 9, 10, 11] (fun t _ _ _ _ wr => ∃ i : Nat, i ≤ n ∧ t = .int .i64 i ∧ Hid (refN N n l = refN N (n - i) (l.drop i)) ∧ Hid (Below w1.heap.size w1 wr)) (fun t _ _ _ _ _ => n - (intOf t).toNat)
  case atStart => exact ⟨0, Nat.zero_le _, rfl, HR0, Lib.hid (Below.refl _ _)⟩
  case round =>
    obtain ⟨i, hi, rfl, HR, HB⟩ := hrel
    by_cases hlt : i < n
    · have HWR := Lib.hid (HB1.out.trans (HB.out.mono HB1.out.size))
      have hst := refN_step (n := N) (l := l) (i := i) (by rw [HLN.out]; exact hlt)
      have hend := tree_end1 HW.out (by rw [HLN.out]; exact hlt)
      rw [HLN.out] at hst
      have hx := nodes_some (nodes_below HL.out HWR.out) hlt
      obtain ⟨g, off, rfl, c0, c1, c2, c3, c4⟩ := (nodes_below HL.out HWR.out).2 i _ hx
      obtain ⟨x, hxe⟩ : ∃ x, x = l.getD i nd0 := ⟨_, rfl⟩
      rw [← hxe] at c0 c1 c2 c3 c4 hst hend
      have HST := Lib.hid hst
      have HG := Lib.hid hend.1
      have hei := hend.2.1
      have hel := hend.2.2
      rw [HLN.out] at hel
      have HII := Lib.hid (HI.out.below HB.out)
      obtain ⟨gb, hgb, ce⟩ := HII.out i _ (endsL_at (K := kidsL l) (i := i) (by rw [kidsL_len, HLN.out]; exact hlt))
      obtain rfl : b = gb := by cases hgb; rfl
      have hbl := cell_lt ce
      dsimp only at hbl
      have hgl := cell_lt c0
      dsimp only at hgl
      clear hst hend hx hxe hgb
      obtain ⟨wo, rfl⟩ : ∃ wo : World, wo = wr := ⟨_, rfl⟩
      have SELF : Hid (selfB N x = false → refN N n l = false) := Lib.hid (fun h => by rw [HR.out, HST.out, h]; rfl)
      by_cases a1 : 68 < x.kind
      · have HF := Lib.hid (SELF.out (self_no (by omega)))
        go_wp2
        go_ret
        exact ⟨ret_bool HF.out.symm, HWR.out.alloc HWR.out.size _⟩
      by_cases a2 : x.lo < 0
      · have HF := Lib.hid (SELF.out (self_no (by omega)))
        go_wp2
        go_ret
        exact ⟨ret_bool HF.out.symm, HWR.out.alloc HWR.out.size _⟩
      by_cases a3 : x.hi < x.lo
      · have HF := Lib.hid (SELF.out (self_no (by omega)))
        go_wp2
        go_ret
        exact ⟨ret_bool HF.out.symm, HWR.out.alloc HWR.out.size _⟩
      by_cases a4 : N < x.hi
      · have HF := Lib.hid (SELF.out (self_no (by omega)))
        go_wp2
        go_ret
        exact ⟨ret_bool HF.out.symm, HWR.out.alloc HWR.out.size _⟩
      by_cases a5 : x.word ≠ -1 ∧ x.word < x.lo
      · obtain ⟨a6, a7⟩ := a5
        have HF := Lib.hid (SELF.out (self_no (by omega)))
        have q6 : (x.word != -1) = true := by simpa using a6
        go_wp2
        go_ret
        exact ⟨ret_bool HF.out.symm, HWR.out.alloc HWR.out.size _⟩
      by_cases a8 : x.word ≠ -1 ∧ x.hi ≤ x.word
      · obtain ⟨a6, a7⟩ := a8
        have HF := Lib.hid (SELF.out (self_no (by omega)))
        have q6 : (x.word != -1) = true := by simpa using a6
        have a9 : ¬ x.word < x.lo := by omega
        go_wp2
        go_ret
        exact ⟨ret_bool HF.out.symm, HWR.out.alloc HWR.out.size _⟩
      have HSF : Hid (selfB N x = true) := Lib.hid ((self_say N x).2 ⟨by omega, by omega, by omega, by omega, by omega⟩)
      have hword : x.word = -1 ∨ (x.word ≠ -1 ∧ x.lo ≤ x.word ∧ x.word < x.hi) := by omega
      have q6 : (x.word != -1) = false ∨ ((x.word != -1) = true ∧ x.lo ≤ x.word ∧ x.word < x.hi) := by
        rcases hword with h | ⟨h, h1, h2⟩
        · exact .inl (by rw [h]; rfl)
        · exact .inr ⟨by simpa using h, h1, h2⟩
      have HXM := Lib.hid (heap_alloc_new wo (.cells #[.int .u8 x.kind, .int .i64 x.kids, .int .i64 x.word, .int .i64 x.lo, .int .i64 x.hi] 35))
      have HB2 := Lib.hid (HB.out.alloc HB.out.size (.cells #[.int .u8 x.kind, .int .i64 x.kids, .int .i64 x.word, .int .i64 x.lo, .int .i64 x.hi] 35))
      have hz2 : wo.heap.size < (wo.alloc (.cells #[.int .u8 x.kind, .int .i64 x.kids, .int .i64 x.word, .int .i64 x.lo, .int .i64 x.hi] 35)).heap.size := by simp
      clear hword a5 a8
      rcases q6 with q6 | ⟨q6, a5, a8⟩
      all_goals
        go_wp2
        generalize wo.alloc (.cells #[.int .u8 x.kind, .int .i64 x.kids, .int .i64 x.word, .int .i64 x.lo, .int .i64 x.hi] 35) = W2 at HXM HB2 hz2 ⊢
        obtain ⟨xb, hxb⟩ : ∃ xb, xb = wo.heap.size := ⟨_, rfl⟩
        rw [← hxb] at HXM hz2 ⊢
        clear hxb c0 c1 c2 c3 c4 ce a1 a2 a3 a4 q6
        go_loopw [9, 10, 11] (fun u t _ wr => ∃ (p : Int) (k m : Nat), i < k ∧ k ≤ endN (kidsL l) i ∧ u = .int .i64 p ∧ t = .int .i64 k ∧ Hid (Goes (kidsL l) k m (endN (kidsL l) i)) ∧ Hid (chainB x.word x.hi x.lo x.kids.toNat (l.drop (i + 1)) = chainB x.word x.hi p m (l.drop k)) ∧ Hid (Below W2.heap.size W2 wr)) (fun _ t _ _ => endN (kidsL l) i - (intOf t).toNat)
        case atStart => exact ⟨x.lo, i + 1, _, by omega, by omega, rfl, by go_num, HG, Lib.hid rfl, Lib.hid (Below.refl _ _)⟩
        case round =>
          obtain ⟨p, k, m, hik, hke, rfl, rfl, HK, HC, HB3⟩ := hrel
          have HBA := Lib.hid (HB2.out.trans (HB3.out.mono HB2.out.size))
          have HWA := Lib.hid (HB1.out.trans (HBA.out.mono HB1.out.size))
          have x2 := (HB3.out.cell (p := ⟨xb, 2, none⟩) hz2).trans (cell_of_row _ _ 2 _ _ _ HXM.out)
          have x4 := (HB3.out.cell (p := ⟨xb, 4, none⟩) hz2).trans (cell_of_row _ _ 4 _ _ _ HXM.out)
          simp only [List.getElem?_toArray, List.getElem?_cons_zero, List.getElem?_cons_succ] at x2 x4
          obtain ⟨gb, hgb, ce⟩ := HI.out.below HBA.out i _ (endsL_at (K := kidsL l) (i := i) (by rw [kidsL_len, HLN.out]; exact hlt))
          obtain rfl : b = gb := by cases hgb; rfl
          cases m with
          | zero =>
            have hkeq := goes_fun HK.out (goes_zero _ _)
            have HKE := Lib.hid hkeq
            have HR2 : Hid (refN N n l = refN N (n - (i + 1)) (l.drop (i + 1))) := Lib.hid (by
              rw [HR.out, HST.out, HSF.out, HC.out]; simp [chainB])
            have hnk : ¬ k < endN (kidsL l) i := by omega
            clear hkeq x2 x4 hgb
            go_wp2
            go_roundw
            case rel => exact ⟨i + 1, by omega, by go_num, HR2, HBA⟩
            case measure => simp [intOf]; omega
          | succ m =>
            have hch := chain_step (w := x.word) (hi := x.hi) (lo := p) HK.out
            obtain ⟨g1, g2, g3⟩ := kids_end HK.out
            rw [kidsL_len, HLN.out] at g3
            have hy := nodes_some (nodes_below HL.out HWA.out) g3
            obtain ⟨gg, go, hga, y0, y1, y2, y3, y4⟩ := (nodes_below HL.out HWA.out).2 k _ hy
            cases hga
            obtain ⟨y, hye⟩ : ∃ y, y = l.getD k nd0 := ⟨_, rfl⟩
            rw [← hye] at y0 y1 y2 y3 y4 hch
            obtain ⟨gb2, hgb2, ck⟩ := HI.out.below HBA.out k _ (endsL_at (K := kidsL l) (i := k) (by rw [kidsL_len, HLN.out]; exact g3))
            obtain rfl : b = gb2 := by cases hgb2; rfl
            have hl1 := goes_le g1
            have hl2 := goes_le g2
            have hk2 : k < endN (kidsL l) k := by omega
            have hk3 : endN (kidsL l) k ≤ endN (kidsL l) i := by omega
            have hkl : k < endN (kidsL l) i := by omega
            have HCH := Lib.hid hch
            have HG2 := Lib.hid g2
            have hby := cell_lt y0
            dsimp only at hby
            have hbc := cell_lt ck
            dsimp only at hbc
            have hbx := cell_lt x2
            dsimp only at hbx
            have KIN : Hid (kinB x.word x.hi p y = false → refN N n l = false) := Lib.hid (fun h => by rw [HR.out, HST.out, HSF.out, HC.out, HCH.out, h]; rfl)
            clear hy hye hch hgb hgb2 g1 g2 hl1 hl2
            by_cases d1 : y.lo < p
            · have HF := Lib.hid (KIN.out (kin_no (by omega)))
              go_wp2
              go_ret
              exact ⟨ret_bool HF.out.symm, HWA.out.alloc HWA.out.size _⟩
            by_cases d2 : y.hi < y.lo
            · have HF := Lib.hid (KIN.out (kin_no (by omega)))
              go_wp2
              go_ret
              exact ⟨ret_bool HF.out.symm, HWA.out.alloc HWA.out.size _⟩
            by_cases d3 : x.hi < y.hi
            · have HF := Lib.hid (KIN.out (kin_no (by omega)))
              go_wp2
              go_ret
              exact ⟨ret_bool HF.out.symm, HWA.out.alloc HWA.out.size _⟩
            by_cases d7 : y.lo ≤ x.word ∧ x.word < y.hi
            · obtain ⟨d8, d9⟩ := d7
              have HF := Lib.hid (KIN.out (kin_no (by omega)))
              go_wp2
              go_ret
              exact ⟨ret_bool HF.out.symm, HWA.out.alloc HWA.out.size _⟩
            have HKN : Hid (kinB x.word x.hi p y = true) := Lib.hid ((kin_say _ _ _ _).2 ⟨by omega, by omega, by omega, by omega⟩)
            have HC2 : Hid (chainB x.word x.hi x.lo x.kids.toNat (l.drop (i + 1)) = chainB x.word x.hi y.hi m (l.drop (endN (kidsL l) k))) := Lib.hid (by rw [HC.out, HCH.out, HKN.out]; rfl)
            by_cases d4 : y.lo ≤ x.word
            · have d5 : y.hi ≤ x.word := by omega
              have d6 : ¬ x.word < y.hi := by omega
              go_wp2
              go_roundw
              case rel => exact ⟨y.hi, endN (kidsL l) k, m, by omega, hk3, rfl, rfl, HG2, HC2, Lib.hid (HB3.out.alloc HB3.out.size _)⟩
              case measure => simp [intOf]; omega
            · go_wp2
              go_roundw
              case rel => exact ⟨y.hi, endN (kidsL l) k, m, by omega, hk3, rfl, rfl, HG2, HC2, Lib.hid (HB3.out.alloc HB3.out.size _)⟩
              case measure => simp [intOf]; omega
    · have hie : i = n := by omega
      have hr := HR.out
      rw [hie, Nat.sub_self] at hr
      have HRR := Lib.hid hr
      clear hr hie
      go_wp2
      go_ret
      exact ⟨ret_bool (by rw [HRR.out]; rfl), HB1.out.trans (HB.out.mono HB1.out.size)⟩
end Go.Proofs.Ytdlpminekojahaa
