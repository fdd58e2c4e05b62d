/-
  Layer 11: contract of the document's read.
-/
import Derived.Test.YtoffjpgobhcipaaGreatDoorIr
import Derived.Test.YtoffjpgobhcipaaGreatDoorIp
import Derived.Test.YtoffjpgobhcipaaGreatDoorJb
import Derived.Test.YtoffjpgobhcipaaGreatDoorKb
import Derived.Deep.LoopGhost
import Derived.Deep.CutBlock
import Derived.Deep.CutRange
import Derived.Deep.RegionHeld3
namespace Go.Proofs.YtoffjpgobhcipaaGreatDoor.Trm
open Go.ChangeShapes Go.WideShapes Go.ChangeAt Go.RowKit

def RdIs (B : Nat) (s : List UInt8) (k : Nat) (e : Ending) (w' : World) : Prop :=
  ∃ (v : Value) (z : Int) (l : List Pt), e = .returned (.tuple #[v, .int .i64 z]) ∧ MineP w' B v l ∧ (treeQ (s.drop k) = none → l = [] ∧ z = 0) ∧ ∀ L r, treeQ (s.drop k) = some (L, r) → l = L ∧ z = ((s.length - r.length : Nat) : Int)
/-- what is read of a part's kids up to a place -/
def KidInv (s : List UInt8) (k : Nat) (p : Pt) (n : Nat) (ks : List Pt) (q : Nat) : Prop :=
  treeQ (s.drop k) = (kidsQ (s.drop q)).bind fun y => some ({ p with kids := ((n + y.1 : Nat) : Int) } :: (ks ++ y.2.1), y.2.2)
set_option maxRecDepth 100000 in
set_option maxHeartbeats 16000000 in
theorem rread_step (s : ByteArray) (hs : s.size ≤ 1048576) (f : Nat)
    (IH : ∀ k, k ≤ s.size → s.size - k ≤ f → ∀ w, Calls Tryz.prog 48 #[.string s, .int .i64 (k : Int)] w fun e w' => RdIs w.heap.size s.data.toList k e w' ∧ Below w.heap.size w w')
    (k : Nat) (hk : k ≤ s.size) (hf : s.size - k ≤ f + 1) (w : World) :
    Calls Tryz.prog 48 #[.string s, .int .i64 (k : Int)] w fun e w' => RdIs w.heap.size s.data.toList k e w' ∧ Below w.heap.size w w' := by
  have hl : s.data.toList.length = s.size := by simp
  have HN : Hid (treeQ (s.data.toList.drop k) = none → ∀ w', RdIs w.heap.size s.data.toList k (.returned (.tuple #[.slice none 0 0, .int .i64 0])) w') := Lib.hid (fun h w' => ⟨_, 0, [], rfl, mineP_nil _ _, fun _ => ⟨rfl, rfl⟩, fun L r hL => by rw [h] at hL; cases hL⟩)
  have htd := tree_doc (s.data.toList.drop k)
  have h0 : (s.data.toList.drop k)[0]? = s.data.toList[k]? := by rw [List.getElem?_drop]; rfl
  rw [h0, List.drop_drop] at htd
  have HT := Lib.hid htd
  clear htd h0
  have j0 : (0 : Int) ≤ k := by omega
  by_cases hks : k < s.size
  case neg =>
    have HR := Lib.hid (HN.out (by rw [HT.out, if_neg]; rw [List.getElem?_eq_none (by omega)]; intro h; cases h))
    have d1 : decide ((s.size : Int) ≤ k) = true := decide_eq_true (by omega)
    go_enter Tryz.func48, Tryz.ntmps48
    go_wp2
    go_ret2
    exact ⟨HR.out _, Below.refl _ _⟩
  have ha := at_of s k hks
  have b40 := bytes_n s[k] 40 40 rfl
  by_cases h40 : s[k] = 40
  case neg =>
    have HR := Lib.hid (HN.out (by rw [HT.out, if_neg]; rw [ha]; intro h; injection h with h; exact h40 h))
    rw [decide_eq_false h40] at b40
    have b40' : ((s[k].toNat : Int) != 40) = true := by rw [bne, b40]; rfl
    clear ha
    go_enter Tryz.func48, Tryz.ntmps48
    go_wp2
    go_ret2
    exact ⟨HR.out _, Below.refl _ _⟩
  rw [decide_eq_true h40] at b40
  have b40' : ((s[k].toNat : Int) != 40) = false := by rw [bne, b40]; rfl
  have hTT := HT.out
  rw [if_pos (by rw [ha, h40])] at hTT
  have HT2 := Lib.hid hTT
  clear hTT ha h40 HT
  obtain ⟨D, hD⟩ : ∃ D, D = dig3 (s.data.toList.drop (k + 1)) := ⟨_, rfl⟩
  have hD3 : D.length ≤ 3 := by rw [hD]; exact dig3_len _
  have hDp : D = (s.data.toList.drop (k + 1)).take D.length := by rw [hD]; exact dig3_pre _
  have hDl : k + 1 + D.length ≤ s.size := by
    have h := congrArg List.length hDp
    rw [List.length_take, List.length_drop, hl] at h
    omega
  have HDA : Hid (∀ j, j < D.length → ∃ h : k + 1 + j < s.size, (48 : Int) ≤ s[k + 1 + j].toNat ∧ (s[k + 1 + j].toNat : Int) ≤ 57 ∧ j < 3 ∧ ((valD (D.take (j + 1)) : Nat) : Int) = 10 * (valD (D.take j) : Nat) + ((s[k + 1 + j].toNat : Int) - 48) ∧ valD (D.take j) ≤ 999) := Lib.hid (fun j hj => by
    rw [hD] at hj ⊢
    obtain ⟨c, h1, h2, h3, h4⟩ := dig3_at hj
    rw [List.getElem?_drop] at h1
    have hlt : k + 1 + j < s.size := by rw [← hl]; exact (List.getElem?_eq_some_iff.1 h1).1
    have h5 := at_of s (k + 1 + j) hlt
    rw [h1] at h5
    injection h5 with h5
    rw [h5] at h2 h4
    obtain ⟨a, b⟩ := dig_int h2
    exact ⟨hlt, a, b, h3, by rw [h4]; omega, dig3_val _ _⟩)
  have HDS : Hid (k + 1 + D.length = s.size ∨ (∃ h : k + 1 + D.length < s.size, (s[k + 1 + D.length].toNat : Int) < 48) ∨ (∃ h : k + 1 + D.length < s.size, (48 : Int) ≤ s[k + 1 + D.length].toNat ∧ 57 < (s[k + 1 + D.length].toNat : Int)) ∨ (∃ h : k + 1 + D.length < s.size, D.length = 3 ∧ (48 : Int) ≤ s[k + 1 + D.length].toNat ∧ (s[k + 1 + D.length].toNat : Int) ≤ 57)) := Lib.hid (by
    by_cases he : k + 1 + D.length = s.size
    · exact .inl he
    · have hlt : k + 1 + D.length < s.size := by omega
      by_cases h48 : (s[k + 1 + D.length].toNat : Int) < 48
      · exact .inr (.inl ⟨hlt, h48⟩)
      · by_cases h57 : 57 < (s[k + 1 + D.length].toNat : Int)
        · exact .inr (.inr (.inl ⟨hlt, by omega, h57⟩))
        · refine .inr (.inr (.inr ⟨hlt, ?_, by omega, by omega⟩))
          by_cases h3 : D.length < 3
          · exfalso
            have h1 := at_of s (k + 1 + D.length) hlt
            have h2 := dig3_stop (l := s.data.toList.drop (k + 1)) (c := s[k + 1 + D.length]) (by rw [← hD, List.getElem?_drop]; exact h1) (by rw [← hD]; exact h3)
            rcases dig_not h2 with h | h <;> omega
          · omega)
  have HDP := Lib.hid hDp
  have HDD := Lib.hid hD
  clear hDp hD hl
  go_enter Tryz.func48, Tryz.ntmps48
  go_upto_block 0 with fail
  go_cut [6, 7] from 16 to 173 (fun kv tv wx => kv = .int .i64 (valD D : Nat) ∧ tv = .int .i64 ((k + 1 + D.length : Nat) : Int) ∧ wx = w)
  case first =>
    have q1 : IntKind.i64.wrap ((k : Int) + 1) = (k : Int) + 1 := by rw [IntKind.wrap_i64]; omega
    go_wp2_with fail
    go_loopw [6, 7] (fun kv tv wr => ∃ j, j ≤ D.length ∧ kv = .int .i64 (valD (D.take j) : Nat) ∧ tv = .int .i64 ((k + 1 + j : Nat) : Int) ∧ wr = w) (fun _ tv _ => D.length - ((intOf tv).toNat - (k + 1)))
    case atStart => exact ⟨0, Nat.zero_le _, rfl, by go_num, rfl⟩
    case round =>
      obtain ⟨j, hj, rfl, rfl, rfl⟩ := hrel
      by_cases hlt : j < D.length
      · obtain ⟨h1, h2, h3, h4, h5, h6⟩ := HDA.out j hlt
        have H5 := Lib.hid h5
        have hkj : ((k + 1 + j : Nat) : Int) - (k : Int) ≤ 3 := by omega
        clear h5
        go_wp2
        go_roundw
        case rel => exact ⟨j + 1, hlt, by rw [H5.out], by go_num, by first | rfl | trivial⟩
        case measure => simp [intOf]; omega
      · obtain rfl : j = D.length := by omega
        rw [List.take_length]
        rcases HDS.out with he | ⟨h1, h2⟩ | ⟨h1, h2, h3⟩ | ⟨h1, h2, h3, h4⟩
        · go_wp2_with fail
          go_meet
          exact ⟨rfl, rfl, rfl⟩
        · go_wp2_with fail
          go_meet
          exact ⟨rfl, rfl, rfl⟩
        · go_wp2_with fail
          go_meet
          exact ⟨rfl, rfl, rfl⟩
        · have hkj : ¬ ((k + 1 + D.length : Nat) : Int) - (k : Int) ≤ 3 := by omega
          have H2 := Lib.hid h2
          clear h2
          go_wp2_with fail
          go_meet
          exact ⟨rfl, by go_num, rfl⟩
  case rest =>
    obtain ⟨rfl, rfl, hwc⟩ := hcut
    rw [hwc]
    clear hwc
    obtain ⟨K, hK⟩ : ∃ K, K = valD D := ⟨_, rfl⟩
    obtain ⟨q, hq⟩ : ∃ q, q = k + 1 + D.length := ⟨_, rfl⟩
    have hKb : K ≤ 999 := by
      have h := dig3_val (s.data.toList.drop (k + 1)) D.length
      rw [← HDD.out, List.take_length] at h
      omega
    have HHD := Lib.hid (headD_at s.data.toList (k + 1) D HDD.out K q hK hq)
    have hqs : q ≤ s.size := by omega
    have hDe : (s.extract (k + 1) q).toList = D := by
      rw [ByteArray.toList_eq, hq]
      conv => rhs; rw [HDP.out]
      simp
    rw [← hK, ← hq]
    have HDE := Lib.hid hDe
    have hsl := fun w => slice_str s (k + 1) q (by omega) hqs ((k : Int) + 1) (q : Int) (by omega) rfl w
    have w1 : IntKind.i64.wrap ((k : Int) + 1) = (k : Int) + 1 := by rw [IntKind.wrap_i64]; omega
    clear hDe HDA HDS
    by_cases hbig : 255 < K
    · have HR := Lib.hid (HN.out (by rw [HT2.out, HHD.out, if_neg (fun h => by have := h.2.1; omega)]; rfl))
      have d1 : decide ((255 : Int) < K) = true := decide_eq_true (by omega)
      clear hK hq HHD
      go_wp2
      go_quiet (fail)
      go_wp2
      go_ret2
      exact ⟨HR.out _, below_drewN (Below.refl _ _) _⟩
    have d1 : decide ((255 : Int) < K) = false := decide_eq_false (by omega)
    by_cases hemp : D = []
    · have HR := Lib.hid (HN.out (by rw [HT2.out, HHD.out, if_neg (fun h => h.1 hemp)]; rfl))
      have hqe : ((q : Int) == (k : Int) + 1) = true := by rw [hq, hemp]; simp
      clear hK hq HHD
      go_wp2
      go_quiet (fail)
      go_wp2
      go_ret2
      exact ⟨HR.out _, below_drewN (Below.refl _ _) _⟩
    have hqe : ((q : Int) == (k : Int) + 1) = false := by
      have := List.length_pos_iff.2 hemp
      simp; omega
    have hdg := fun w => digits_any K (by omega) w
    have w2 : IntKind.u8.wrap (K : Int) = K := by rw [IntKind.wrap_u8]; omega
    by_cases hdq : digs K = D
    case neg =>
      have HR := Lib.hid (HN.out (by rw [HT2.out, HHD.out, if_neg (fun h => hdq h.2.2)]; rfl))
      have e5 : (digs K != (s.extract (k + 1) q).toList) = true := by rw [HDE.out]; simpa using hdq
      have e6 : (digs K == (s.extract (k + 1) q).toList) = false := by rw [HDE.out]; simpa using hdq
      clear hK hq HHD hdq
      go_wp2
      go_region_held3 (fun _ => True) (trivial) ((go_at_call 61; refine (hdg _).mono ?_; rintro e w5 ⟨rfl, hB5⟩))
      have h8 : Below w.heap.size w w5 := (by first | exact hB5 | exact (Below.refl _ w).drew.trans hB5 | exact (below_drewN (Below.refl _ w) _).trans hB5)
      go_wp2
      go_ret2
      exact ⟨HR.out _, h8⟩
    have e5 : (digs K != (s.extract (k + 1) q).toList) = false := by rw [HDE.out, hdq]; simp
    have e6 : (digs K == (s.extract (k + 1) q).toList) = true := by rw [HDE.out, hdq]; simp
    have hH2 := HHD.out
    rw [if_pos ⟨hemp, by omega, hdq⟩] at hH2
    have HH := Lib.hid hH2
    have hkq : k + 1 < q := by have := List.length_pos_iff.2 hemp; omega
    clear hK hq HHD hdq hH2 HDE HDD HDP hqe
    have hqe : ((q : Int) == (k : Int) + 1) = false := by simp; omega
    go_wp2
    go_region_held3 (fun _ => True) (trivial) ((go_at_call 61; refine (hdg _).mono ?_; rintro e w5 ⟨rfl, hB5⟩))
    have HB5 : Hid (Below w.heap.size w w5) := Lib.hid (by first | exact hB5 | exact (Below.refl _ w).drew.trans hB5 | exact (below_drewN (Below.refl _ w) _).trans hB5)
    clear hB5
    go_upto_region 10 with fail
    have HP3 : Hid ((w5.alloc (.cells #[.int .u8 K, .int .i64 0, .string ⟨#[]⟩] 28)).heap[w5.heap.size]? = some (.cells #[.int .u8 K, .int .i64 0, .string ⟨#[]⟩] 28 (0, 0))) := Lib.hid (heap_alloc_new w5 _)
    have HB3 : Hid (Below w.heap.size w (w5.alloc (.cells #[.int .u8 K, .int .i64 0, .string ⟨#[]⟩] 28))) := Lib.hid (HB5.out.alloc HB5.out.size _)
    obtain ⟨b, hb⟩ : ∃ b, b = w5.heap.size := ⟨_, rfl⟩
    have hbw : w.heap.size ≤ b := by rw [hb]; exact HB5.out.size
    rw [← hb] at HP3 ⊢
    generalize w5.alloc (.cells #[.int .u8 K, .int .i64 0, .string ⟨#[]⟩] 28) = w3 at HP3 HB3 ⊢
    clear hb HB5 w5
    obtain ⟨W, hW⟩ : ∃ W, W = decide (s.data.toList[q]? = some 32 ∧ s.data.toList[q + 1]? = some 34) := ⟨_, rfl⟩
    have hl : s.data.toList.length = s.size := by simp
    go_cut [99] from 16 to 173 (fun v wx => v = .bool W ∧ wx = w3)
    case first =>
      by_cases hq1 : q + 1 < s.size
      · have h0 := at_of s q (by omega)
        have h1 := at_of s (q + 1) hq1
        have b32 := bytes_n s[q] 32 32 rfl
        have b34 := bytes_n s[q + 1] 34 34 rfl
        by_cases c32 : s[q] = 32
        · rw [decide_eq_true c32] at b32
          by_cases c34 : s[q + 1] = 34
          · rw [decide_eq_true c34] at b34
            have hW2 : W = true := by rw [hW, h0, h1, c32, c34]; rfl
            clear h0 h1 c32 c34 hW
            go_wp2_with fail
            go_meet
            exact ⟨by rw [hW2], rfl⟩
          · rw [decide_eq_false c34] at b34
            have hW2 : W = false := by rw [hW, h0, h1]; exact decide_eq_false (fun h => c34 (by have := h.2; injection this))
            clear h0 h1 c32 c34 hW
            go_wp2_with fail
            go_meet
            exact ⟨by rw [hW2], rfl⟩
        · rw [decide_eq_false c32] at b32
          have hW2 : W = false := by rw [hW, h0, h1]; exact decide_eq_false (fun h => c32 (by have := h.1; injection this))
          clear h0 h1 c32 hW
          go_wp2_with fail
          go_meet
          exact ⟨by rw [hW2], rfl⟩
      · have hW2 : W = false := by
          rw [hW]
          refine decide_eq_false (fun h => ?_)
          have := (List.getElem?_eq_some_iff.1 h.2).1
          omega
        have d5 : ¬ (q : Int) + 1 < s.size := by omega
        clear hW
        go_wp2_with fail
        go_meet
        exact ⟨by rw [hW2], rfl⟩
    case rest =>
    obtain ⟨rfl, hwc⟩ := hcut
    rw [hwc]
    clear hwc
    go_upto_if 99 with fail
    go_cut [7] from 16 to 173 (fun tv wx => ∃ (q2 : Nat) (wd : ByteArray), tv = .int .i64 (q2 : Int) ∧ q2 ≤ s.size ∧ k + 1 < q2 ∧ Hid (headD (s.data.toList.drop (k + 1)) = some (⟨K, 0, wd⟩, s.data.toList.drop q2)) ∧ Hid (wx.heap[b]? = some (.cells #[.int .u8 K, .int .i64 0, .string wd] 28 (0, 0))) ∧ Hid (Below w.heap.size w wx))
    case first =>
      cases W with
      | false =>
        have hH2 := HH.out
        rw [if_neg (of_decide_eq_false hW.symm)] at hH2
        clear hW
        go_wp2_with fail
        go_meet
        exact ⟨q, _, rfl, hqs, hkq, Lib.hid hH2, HP3, HB3⟩
      | true =>
        have hW1 := of_decide_eq_true hW.symm
        have hH2 := HH.out
        rw [if_pos hW1] at hH2
        have h34 : (s.data.toList.drop (q + 1))[0]? = some 34 := by rw [List.getElem?_drop]; exact hW1.2
        have hbg := fun w => begun_any s (by omega) ((q : Int) + 1) w
        have hqt : ((q : Int) + 1).toNat = q + 1 := by omega
        have hmk : markAt s.data.toList ((q : Int) + 1) = true := by
          unfold markAt
          rw [decide_eq_true (by omega), hqt, hW1.2]
          rfl
        rw [show begunV s.data.toList ((q : Int) + 1) = begAns (readOf s.data.toList (q + 1)) by unfold begunV; rw [if_pos hmk, hqt], readOf_rel] at hbg
        have hql : q + 1 < s.size := by have := (List.getElem?_eq_some_iff.1 hW1.2).1; omega
        have wq : IntKind.i64.wrap ((q : Int) + 1) = (q : Int) + 1 := by rw [IntKind.wrap_i64]; omega
        clear hW hW1 hmk
        cases hrd : readOf (s.data.toList.drop (q + 1)) 0 with
        | none =>
          rw [hrd] at hbg hH2
          have HR := Lib.hid (HN.out (by rw [HT2.out, hH2]; rfl))
          have hbg2 : ∀ w, Calls Tryz.prog 67 #[.string s, .int .i64 ((q : Int) + 1)] w fun e w' => e = .returned (.tuple #[.int .u8 0, .int .i64 0, .string ⟨#[]⟩, .int .i64 4]) ∧ Below w.heap.size w w' := hbg
          clear hbg hH2 hrd h34
          go_wp2_with (go_at_call 67; refine (hbg2 _).mono ?_; rintro e w5 ⟨rfl, hB5⟩)
          go_quiet (fail)
          go_wp2
          go_ret2
          exact ⟨HR.out _, below_drewN (HB3.out.trans (hB5.mono HB3.out.size)) _⟩
        | some x =>
          obtain ⟨K', L, n⟩ := x
          rw [hrd] at hbg hH2
          have hrl := readOf_len hrd
          have hne : q + 1 + n ≤ s.size := by have := hrl.2.1; rw [List.length_drop, hl] at this; omega
          have hvl := value_at hrd h34
          have hLl : L.length ≤ 2000000 := by
            have := value_len hvl (by rw [List.getElem?_take, if_pos (by have := hrl.1; omega)]; exact h34)
            rw [List.length_take, List.length_drop, hl] at this; omega
          have hbg2 : ∀ w, Calls Tryz.prog 67 #[.string s, .int .i64 ((q : Int) + 1)] w fun e w' => e = .returned (.tuple #[.int .u8 K', .int .i64 ((q + 1 + n : Nat) : Int), .string ⟨L.toArray⟩, .int .i64 0]) ∧ Below w.heap.size w w' := hbg
          have hH3 : headD (s.data.toList.drop (k + 1)) = if L ≠ [] ∧ quoteOf L = (s.data.toList.drop (q + 1)).take n then some (⟨K, 0, ⟨L.toArray⟩⟩, s.data.toList.drop (q + 1 + n)) else none := hH2
          have hsl2 := fun w => slice_str s (q + 1) (q + 1 + n) (by omega) hne ((q : Int) + 1) ((q : Int) + 1 + n) (by omega) (by omega) w
          have hLt : (⟨L.toArray⟩ : ByteArray).toList = L := by rw [ByteArray.toList_eq]
          clear hbg hH2 hrd h34 hrl hvl
          by_cases hL0 : L = []
          · have HR := Lib.hid (HN.out (by rw [HT2.out, hH3, if_neg (fun x => x.1 hL0)]; rfl))
            have e0 : (⟨L.toArray⟩ : ByteArray).toList = [] := by rw [hLt, hL0]
            have e1 : L.isEmpty = true := by rw [hL0]; rfl
            have e2 : (L == []) = true := by rw [hL0]; rfl
            clear hL0 hH3
            go_wp2_with (go_at_call 67; refine (hbg2 _).mono ?_; rintro e w5 ⟨rfl, hB5⟩)
            go_quiet (fail)
            go_wp2
            go_ret2
            exact ⟨HR.out _, below_drewN (HB3.out.trans (hB5.mono HB3.out.size)) _⟩
          have e0 : L.isEmpty = false := by simpa using hL0
          have e2 : (L == []) = false := by simpa using hL0
          have hqa := fun w => rquote_any ⟨L.toArray⟩ (by show L.length ≤ _; omega) w
          have hex : (s.extract (q + 1) (q + 1 + n)).toList = (s.data.toList.drop (q + 1)).take n := by rw [ByteArray.toList_eq]; simp
          by_cases hqq : quoteOf L = (s.data.toList.drop (q + 1)).take n
          case neg =>
            have HR := Lib.hid (HN.out (by rw [HT2.out, hH3, if_neg (fun x => hqq x.2)]; rfl))
            have e5 : (quoteOf L != (s.extract (q + 1) (q + 1 + n)).toList) = true := by rw [hex]; simpa using hqq
            have e6 : (quoteOf L == (s.extract (q + 1) (q + 1 + n)).toList) = false := by rw [hex]; simpa using hqq
            clear hL0 hqq hex hLt hH3
            go_wp2_with (go_at_call 67; refine (hbg2 _).mono ?_; rintro e w5 ⟨rfl, hB5⟩; have HB5 := Lib.hid (HB3.out.trans (hB5.mono HB3.out.size)); clear hB5)
            go_region_held3 (fun _ => True) (trivial) ((go_at_call 62; refine (hqa _).mono ?_; rintro e w8 ⟨rfl, hB8⟩))
            have h8 : Below w5.heap.size w5 w8 := (by first | exact hB8 | exact (Below.refl _ w5).drew.trans hB8 | exact (below_drewN (Below.refl _ w5) _).trans hB8)
            go_wp2
            go_ret2
            exact ⟨HR.out _, HB5.out.trans (h8.mono HB5.out.size)⟩
          rw [if_pos ⟨hL0, hqq⟩] at hH3
          have e5 : (quoteOf L != (s.extract (q + 1) (q + 1 + n)).toList) = false := by rw [hex, ← hqq]; simp
          have e6 : (quoteOf L == (s.extract (q + 1) (q + 1 + n)).toList) = true := by rw [hex, ← hqq]; simp
          have HH3 := Lib.hid hH3
          clear hL0 hqq hex hLt hH3
          go_wp2_with (go_at_call 67; refine (hbg2 _).mono ?_; rintro e w5 ⟨rfl, hB5⟩; have HB5 := Lib.hid (HB3.out.trans (hB5.mono HB3.out.size)); have HP5 := Lib.hid ((hB5.block b (by have := (Array.getElem?_eq_some_iff.1 HP3.out).1; exact this)).trans HP3.out); clear hB5)
          go_region_held3 (fun _ => True) (trivial) ((go_at_call 62; refine (hqa _).mono ?_; rintro e w8 ⟨rfl, hB8⟩))
          have h8 : Below w5.heap.size w5 w8 := (by first | exact hB8 | exact (Below.refl _ w5).drew.trans hB8 | exact (below_drewN (Below.refl _ w5) _).trans hB8)
          have HP8 := Lib.hid ((h8.block b (by have := (Array.getElem?_eq_some_iff.1 HP5.out).1; exact this)).trans HP5.out)
          have HB8 := Lib.hid (HB5.out.trans (h8.mono HB5.out.size))
          have p2 : w8.cell? ⟨b, 2, none⟩ = some (.string ⟨#[]⟩) := (cell_of_row _ _ 2 _ 28 (0, 0) HP8.out).trans rfl
          have f2 : w8.frozen? ⟨b, 2, none⟩ = false := by simp [World.frozen?, HP8.out]
          clear h8 hB8
          go_wp2_with fail
          go_meet
          exact ⟨q + 1 + n, ⟨L.toArray⟩, by go_num, hne, by omega, HH3, Lib.hid (by rw [heap_setCell_same _ _ _ _ _ _ HP8.out]; rfl), Lib.hid (HB8.out.setCell (p := ⟨b, 2, none⟩) (by show w.heap.size ≤ b; omega) _)⟩
    case rest =>
    obtain ⟨q2, wd, rfl, hq2s, hq2k, HH2, HPb, HBb⟩ := hcut
    have hbl : b < wc.heap.size := by have := (Array.getElem?_eq_some_iff.1 HPb.out).1; exact this
    have p0 : wc.cell? ⟨b, 0, none⟩ = some (.int .u8 K) := (cell_of_row _ _ 0 _ 28 (0, 0) HPb.out).trans rfl
    have p1 : wc.cell? ⟨b, 1, none⟩ = some (.int .i64 0) := (cell_of_row _ _ 1 _ 28 (0, 0) HPb.out).trans rfl
    have p2 : wc.cell? ⟨b, 2, none⟩ = some (.string wd) := (cell_of_row _ _ 2 _ 28 (0, 0) HPb.out).trans rfl
    have HK0 : Hid (KidInv s.data.toList k ⟨K, 0, wd⟩ 0 [] q2) := Lib.hid (by
      unfold KidInv
      rw [HT2.out, HH2.out, Option.bind_some]
      congr 1
      funext y
      simp)
    have HM0 : Hid (MineP (wc.alloc (.cells #[.int .u8 K, .int .i64 0, .string wd] 28)) w.heap.size (.slice (some ⟨wc.heap.size, 0, none⟩) 1 1) (({ (⟨K, 0, wd⟩ : Pt) with kids := ((0 : Nat) : Int) }) :: [])) := Lib.hid (mineP_one (p := ⟨K, 0, wd⟩) HBb.out.size)
    have HB0 := Lib.hid (HBb.out.alloc HBb.out.size (.cells #[.int .u8 K, .int .i64 0, .string wd] 28))
    obtain ⟨i1, hi1, hy0, hy1, hy2⟩ := info_parts info28z
    have F1 := Lib.hid hi1
    have F2 := Lib.hid hy0
    have F3 := Lib.hid hy1
    have F4 := Lib.hid hy2
    clear hi1 hy0 hy1 hy2 HP3 HB3 HT2 HH hbl
    go_wp2
    go_loopg [7, 13, 14, 15] (s.size - q2) (fun g t7 t13 _ _ wr => ∃ (n qq : Nat) (ks : List Pt), g = s.size - qq ∧ t7 = .int .i64 (qq : Int) ∧ qq ≤ s.size ∧ k < qq ∧ n ≤ qq ∧ ks.length ≤ qq ∧ Hid (MineP wr w.heap.size t13 (({ (⟨K, 0, wd⟩ : Pt) with kids := ((n : Nat) : Int) }) :: ks)) ∧ Hid (Below w.heap.size w wr) ∧ Hid (KidInv s.data.toList k ⟨K, 0, wd⟩ n ks qq))
    case atStart => exact ⟨0, q2, [], rfl, rfl, hq2s, by omega, Nat.zero_le _, Nat.zero_le _, HM0, HB0, HK0⟩
    case round =>
      obtain ⟨n, qq, ks, rfl, rfl, hqs2, hkq2, hnq, hksq, HM, HB, HK⟩ := hrel
      have hKI := HK.out
      unfold KidInv at hKI
      have hat : ∀ j, (s.data.toList.drop qq)[j]? = s.data.toList[qq + j]? := fun j => by rw [List.getElem?_drop]
      by_cases hlt : qq < s.size
      · have h0 := at_of s qq hlt
        have b32 := bytes_n s[qq] 32 32 rfl
        have b41 := bytes_n s[qq] 41 41 rfl
        by_cases c32 : s[qq] = 32
        · rw [decide_eq_true c32] at b32
          have h32 : (s.data.toList.drop qq)[0]? = some 32 := by rw [hat, Nat.add_zero, h0, c32]
          have hkt := kidsQ_tree _ h32
          rw [List.drop_drop] at hkt
          have hIH := fun w' => IH (qq + 1) hlt (by omega) w'
          have wq : IntKind.i64.wrap ((qq : Int) + 1) = ((qq + 1 : Nat) : Int) := by rw [IntKind.wrap_i64]; omega
          clear h0 b41 c32 h32 hat
          cases ht : treeQ (s.data.toList.drop (qq + 1)) with
          | none =>
            rw [ht] at hkt
            have HR := Lib.hid (HN.out (by rw [hKI, hkt]; rfl))
            have HIH : Hid (∀ w', Calls Tryz.prog 48 #[.string s, .int .i64 ((qq + 1 : Nat) : Int)] w' fun e w'' => (∃ (a : Option Addr) (c : Nat), e = .returned (.tuple #[.slice a 0 c, .int .i64 0])) ∧ Below w'.heap.size w' w'') := Lib.hid (fun w' => (hIH w').mono (by
              rintro e w'' ⟨⟨v, z, l, rfl, hM, h1, _⟩, hB⟩
              obtain ⟨rfl, rfl⟩ := h1 ht
              obtain ⟨a, c, rfl, _, _, _⟩ := mineP_parts hM
              exact ⟨⟨a, c, rfl⟩, hB⟩))
            clear hIH hkt hKI ht
            go_wp2_with (go_at_call 48; refine (HIH.out _).mono ?_; rintro e w2 ⟨⟨a2, c2, rfl⟩, hB2⟩)
            go_ret2
            exact ⟨HR.out _, HB.out.trans (hB2.mono HB.out.size)⟩
          | some y =>
            obtain ⟨L2, r2⟩ := y
            rw [ht, Option.bind_some] at hkt
            obtain ⟨hn1, hn2, hn3⟩ := tree_nodes ht
            rw [List.length_drop, hl] at hn1
            obtain ⟨z, hz⟩ : ∃ z, z = s.size - r2.length := ⟨_, rfl⟩
            have hr2 : r2 = s.data.toList.drop z := by
              rw [List.length_drop, hl, List.drop_drop, show qq + 1 + (s.size - (qq + 1) - r2.length) = z by omega] at hn3
              exact hn3
            have hzs : z ≤ s.size := by omega
            have hzq : qq + 1 ≤ z := by omega
            have hL2z : L2.length + (qq + 1) ≤ z := by omega
            have hL2p := List.length_pos_iff.2 hn2
            have HIH : Hid (∀ w', Calls Tryz.prog 48 #[.string s, .int .i64 ((qq + 1 : Nat) : Int)] w' fun e w'' => (∃ (v : Value), e = .returned (.tuple #[v, .int .i64 (z : Int)]) ∧ MineP w'' w'.heap.size v L2) ∧ Below w'.heap.size w' w'') := Lib.hid (fun w' => (hIH w').mono (by
              rintro e w'' ⟨⟨v, z', l, rfl, hM, _, h1⟩, hB⟩
              obtain ⟨rfl, rfl⟩ := h1 L2 r2 ht
              rw [hl, ← hz]
              exact ⟨⟨v, rfl, hM⟩, hB⟩))
            have HK2 : Hid (KidInv s.data.toList k ⟨K, 0, wd⟩ (n + 1) (ks ++ L2) z) := Lib.hid (by
              unfold KidInv
              rw [hKI, hkt, ← hr2]
              cases kidsQ r2 with
              | none => rfl
              | some y =>
                simp only [Option.bind_some, List.append_assoc]
                rw [show n + 1 + y.1 = n + (y.1 + 1) by omega])
            obtain ⟨g3, c3, cur3, rfl, hg3, hg3l, hh3, hc3, hcm3, _, hkid⟩ := mineP_some HM.out (by simp)
            have hkd := hkid 0 _ rfl
            dsimp only at hkd
            have hkd2 : wr.cell? ⟨g3, 1, none⟩ = some (.int .i64 (n : Int)) := hkd
            have hfk : wr.frozen? ⟨g3, 1, none⟩ = false := by simp [World.frozen?, hh3]
            have dl : ((L2.length : Int) == 0) = false := by simp; exact hn2
            have wn : IntKind.i64.wrap ((n : Int) + 1) = (n : Int) + 1 := by rw [IntKind.wrap_i64]; omega
            clear hIH hkt hKI ht hn1 hn2 hn3 hz hr2 hkid hkd
            go_wp2_with (first
              | (go_at_call 48; refine (HIH.out _).mono ?_; rintro e w2 ⟨⟨v2, rfl, hM2⟩, hB2⟩; obtain ⟨g2, c2, cur2, rfl, hg2, hg2l, hh2, hc2, hcm2, hcs2, _⟩ := mineP_some hM2 (List.length_pos_iff.1 hL2p); have HB2 := Lib.hid hB2; have kd2 := (World.cell?_of_block (a := ⟨g3, 1, none⟩) (hB2.block g3 hg3l)).trans hkd2; have fk2 := (World.frozen?_of_block (a := ⟨g3, 1, none⟩) (hB2.block g3 hg3l)).trans hfk; have HC2 := Lib.hid hcs2; have HM2 := Lib.hid hM2; clear hM2 hB2 hcs2)
              | (at_builtin; refine wpList_append_own _ rfl _ _ 22 rfl w.heap.size 28 i1 (.agg #[.int .u8 0, .int .i64 0, .string ⟨#[]⟩]) 3 32 Tryz.underlying22 F1.out F2.out F3.out F4.out rfl (by decide) _ _ _ rfl (mineP_set (k := 0) ((n : Int) + 1) rfl (mineP_below HM.out HB2.out)) ⟨g2, 0, none⟩ L2.length c2 (cellsP L2) rfl (cellsP_len L2) ?d1 (cells_one L2) ?d3 ?d4 ?d5 ?_))
            case d1 =>
              intro j u hu
              have e : ((⟨g2, 0, none⟩ : Addr).add j).block = g2 := by unfold Addr.add; split <;> rfl
              exact (World.cell?_of_block (by rw [e]; exact heap_setCell_other _ _ _ _ (by show g2 ≠ g3; omega))).trans (HC2.out j u hu)
            case d3 => rw [List.length_modify]; unfold maxLen; simp only [List.length_cons]; omega
            case d4 => rw [List.length_modify]; simp only [List.length_cons]; omega
            case d5 => have h1 := HB.out.size; have h2 := HB2.out.size; simp; omega
            intro v5 w5 hown5 hg5 _
            have HM5 : Hid (MineP w5 w.heap.size v5 (({ (⟨K, 0, wd⟩ : Pt) with kids := ((n + 1 : Nat) : Int) }) :: (ks ++ L2))) := Lib.hid (by
              rw [show ((n + 1 : Nat) : Int) = (n : Int) + 1 by omega]
              exact mineP_app hown5)
            have hB3 := (HB.out.trans (HB2.out.mono HB.out.size)).setCell (p := ⟨g3, 0 * 3 + 1, none⟩) (by show w.heap.size ≤ g3; exact hg3) (.int .i64 ((n : Int) + 1))
            have HB5 := Lib.hid (hB3.grown hg5 (by have h1 := HB.out.size; have h2 := HB2.out.size; simp; omega) (fun x hx => by simp [Value.ownBlock] at hx; omega))
            clear hown5 hg5 hB3
            go_wp2
            go_roundg (s.size - z)
            case rel => exact ⟨n + 1, z, ks ++ L2, rfl, rfl, hzs, by omega, by omega, by rw [List.length_append]; omega, HM5, HB5, HK2⟩
            case measure => omega
        · rw [decide_eq_false c32] at b32
          have wq : IntKind.i64.wrap ((qq : Int) + 1) = (qq : Int) + 1 := by rw [IntKind.wrap_i64]; omega
          by_cases c41 : s[qq] = 41
          · rw [decide_eq_true c41] at b41
            have b41' : ((s[qq].toNat : Int) != 41) = false := by rw [bne, b41]; rfl
            have hk0 : kidsQ (s.data.toList.drop qq) = some (0, [], s.data.toList.drop (qq + 1)) := by
              rw [kidsQ_eq, if_pos (by rw [hat, Nat.add_zero, h0, c41]), List.drop_drop]
            have HR : Hid (RdIs w.heap.size s.data.toList k (.returned (.tuple #[u13, .int .i64 ((qq : Int) + 1)])) wr) := Lib.hid (by
              rw [hk0] at hKI
              refine ⟨u13, (qq : Int) + 1, _, rfl, HM.out, (fun h => by rw [hKI] at h; cases h), fun L r h => ?_⟩
              rw [hKI] at h
              simp only [Option.bind_some, Option.some.injEq, Prod.mk.injEq, List.append_nil, Nat.add_zero] at h
              obtain ⟨h1, h2⟩ := h
              refine ⟨h1, ?_⟩
              rw [← h2, List.length_drop, hl]
              omega)
            clear h0 c32 c41 hat hKI hk0
            go_wp2
            go_ret2
            exact ⟨HR.out, HB.out⟩
          · rw [decide_eq_false c41] at b41
            have b41' : ((s[qq].toNat : Int) != 41) = true := by rw [bne, b41]; rfl
            have HR := Lib.hid (HN.out (by
              rw [hKI, kidsQ_none]
              · rfl
              · rw [hat, Nat.add_zero, h0]; intro h; injection h with h; exact c41 h
              · rw [hat, Nat.add_zero, h0]; intro h; injection h with h; exact c32 h))
            clear h0 c32 c41 hat hKI
            go_wp2
            go_ret2
            exact ⟨HR.out _, HB.out⟩
      · have hno : (s.data.toList.drop qq)[0]? = none := by rw [hat, List.getElem?_eq_none (by omega)]
        have HR := Lib.hid (HN.out (by
          rw [hKI, kidsQ_none]
          · rfl
          · rw [hno]; intro h; cases h
          · rw [hno]; intro h; cases h))
        have d6 : decide ((s.size : Int) ≤ qq) = true := decide_eq_true (by omega)
        clear hat hKI hno
        go_wp2
        go_ret2
        exact ⟨HR.out _, HB.out⟩
set_option maxRecDepth 100000 in
set_option maxHeartbeats 4000000 in
theorem rread_end (s : ByteArray) (w : World) :
    Calls Tryz.prog 48 #[.string s, .int .i64 (s.size : Int)] w fun e w' => RdIs w.heap.size s.data.toList s.size e w' ∧ Below w.heap.size w w' := by
  have HR : Hid (∀ w', RdIs w.heap.size s.data.toList s.size (.returned (.tuple #[.slice none 0 0, .int .i64 0])) w') := Lib.hid (fun w' => ⟨_, 0, [], rfl, mineP_nil _ _, fun _ => ⟨rfl, rfl⟩, fun L r hL => by
    have h1 : s.data.toList.drop s.size = [] := List.drop_eq_nil_of_le (by simp)
    rw [h1] at hL
    unfold treeQ at hL
    simp at hL⟩)
  have d1 : decide ((s.size : Int) ≤ s.size) = true := decide_eq_true (by omega)
  go_enter Tryz.func48, Tryz.ntmps48
  go_wp2
  go_ret2
  exact ⟨HR.out _, Below.refl _ _⟩
theorem rread_ok (s : ByteArray) (hs : s.size ≤ 1048576) : ∀ (f k : Nat), k ≤ s.size → s.size - k ≤ f → ∀ w, Calls Tryz.prog 48 #[.string s, .int .i64 (k : Int)] w fun e w' => RdIs w.heap.size s.data.toList k e w' ∧ Below w.heap.size w w'
  | 0, k, hk, hf, w => by
    have : k = s.size := by omega
    subst this
    exact rread_end s w
  | f + 1, k, hk, hf, w => rread_step s hs f (rread_ok s hs f) k hk hf w
end Go.Proofs.YtoffjpgobhcipaaGreatDoor.Trm
