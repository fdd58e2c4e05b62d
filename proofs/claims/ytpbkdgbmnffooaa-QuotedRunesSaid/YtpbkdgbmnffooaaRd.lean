/-
  Contracts of the document's Read and Bad for layer 1.
-/
import Derived.Test.YtpbkdgbmnffooaaRc
import Derived.Outline
import Derived.Deep.RegionWith
namespace Go.Proofs.Ytpbkdgbmnffooaa
open Go.ChangeShapes Go.WideShapes Go.ChangeAt Go.RowKit
open Go.Lib (decodeL)

theorem byte_at (s : ByteArray) (pos i : Nat) (h : pos + i < s.size) : wrap64 ((s[pos + i]'h).toNat : Int) = (((s.data.toList.drop pos).getD i 0).toNat : Int) := by
  have h1 := UInt8.toNat_lt (s[pos + i]'h)
  have h2 : wrap64 ((s[pos + i]'h).toNat : Int) = ((s[pos + i]'h).toNat : Int) := by unfold wrap64; omega
  rw [h2]
  have : (s.data.toList.drop pos).getD i 0 = s[pos + i]'h := by
    rw [List.getD_eq_getElem?_getD, List.getElem?_drop, List.getElem?_eq_getElem (by simpa using h)]
    rfl
  rw [this]

theorem slice_run (s : ByteArray) (pos n : Nat) (j : Int) (hj : j = (pos : Int) + n) (h : pos + n ≤ s.size) (w : World) :
    (Instr.slice 9 (.string s) (some (.int .i64 (pos : Int))) (some (.int .i64 j)) none).run Try.prog w = .ok (.string (s.extract pos (pos + n))) w := by
  subst hj
  rw [run_slice_string _ 9 s .i64 .i64 _ _ Try.underlying9 (by omega) (by omega) (by omega)]
  congr 2

theorem test_eq (s : ByteArray) (pos n : Nat) (c : Int) (l : List UInt8) (hl : l = s.data.toList.drop pos) (hc : c = tried l n) (h1 : 1 ≤ n) (h2 : pos + n ≤ s.size) :
    (form c == (s.extract pos (pos + n)).toList) = decide (wide l = n) := by
  have hx : (s.extract pos (pos + n)).toList = l.take n := by
    rw [extract_list, hl, List.drop_take]; congr 1; omega
  rw [hx, Bool.eq_iff_iff, beq_iff_eq, decide_eq_true_eq, hc]
  exact tried_iff l n h1 (by rw [hl]; simp; omega)
theorem ret2_int {k k' : IntKind} {a b c d : Int} (h : a = b) (h' : c = d) : Ending.returned (.tuple #[.int k a, .int k' c]) = .returned (.tuple #[.int k b, .int k' d]) := by rw [h, h']
/-- what is known of the lengths below n -/
def Past (l : List UInt8) (n : Nat) : Prop := n ≤ wide l ∨ wide l = 0
theorem past_next {l : List UInt8} {n : Nat} (h : Past l n) (h' : ¬ wide l = n) : Past l (n + 1) := by
  unfold Past at h ⊢; omega
theorem past_end {l : List UInt8} {n : Nat} (h : Past l n) (h' : n = 5 ∨ l.length < n) : wide l = 0 := by
  have := wide_le l
  unfold Past at h; omega
theorem chr_none {l : List UInt8} (h : wide l = 0) : chr l = 0 := by
  unfold wide at h
  unfold chr
  split at h
  · rw [if_pos (by assumption)]
  · rename_i hx
    simp only [not_or] at hx
    have := good_width l hx.1
    omega

set_option maxHeartbeats 2000000 in
theorem rread_in (s : ByteArray) (pos : Nat) (w : World) (hs : s.size ≤ maxLen) (hp : pos < s.size) :
    Calls Try.prog 35 #[.string s, .int .i64 pos] w fun e w' => e = .returned (.tuple #[.int .i64 (chr (s.data.toList.drop pos)), .int .i64 (wide (s.data.toList.drop pos))]) ∧ Below w.heap.size w w' := by
  unfold maxLen at hs
  obtain ⟨l, hl⟩ : ∃ l, l = s.data.toList.drop pos := ⟨_, rfl⟩
  have HL := Lib.hid hl
  rw [← hl]
  have hlen : l.length = s.size - pos := by rw [hl]; simp
  have HN := Lib.hid hlen
  clear hl hlen
  have d1 : decide ((pos : Int) < 0) = false := by rw [decide_eq_false_iff_not]; omega
  have d2 : decide (s.size ≤ pos) = false := by rw [decide_eq_false_iff_not]; omega
  go_enter Try.func35, Try.ntmps35
  go_wp2
  go_loopw [6] (fun i wr => ∃ (n : Nat) (z : Int), 1 ≤ n ∧ n ≤ 5 ∧ z = n ∧ i = .int .i64 z ∧ Below w.heap.size w wr ∧ Past l n) (fun i _ => 6 - (intOf i).toNat)
  case atStart => exact ⟨1, 1, by omega, by omega, rfl, rfl, Below.refl _ _, by unfold Past; omega⟩
  case round =>
    obtain ⟨n, z, hn1, hn5, hz0, rfl, hB, hw⟩ := hrel
    by_cases h5 : n = 5
    · have hz := Lib.hid (past_end hw (.inl h5))
      have hz' := Lib.hid (chr_none hz.out)
      obtain rfl : z = 5 := by omega
      clear hz0
      subst h5
      go_wp2
      go_ret2
      exact ⟨ret2_int (by rw [hz'.out]) (by rw [hz.out]; rfl), hB⟩
    by_cases hfit : n ≤ s.size - pos
    · have h4 : n ≤ 4 := by omega
      clear hn5 h5
      obtain ⟨b0, hb0⟩ : ∃ b0 : Int, b0 = ((l.getD 0 0).toNat : Int) := ⟨_, rfl⟩
      have hbyte := byte_at s pos 0 (by omega)
      rw [← HL.out, ← hb0] at hbyte
      simp only [Nat.add_zero] at hbyte
      have hbl : 0 ≤ b0 := by omega
      have hbu : b0 < 256 := by have := (mem4 l).1; omega
      have HB0 := Lib.hid hb0
      clear hb0
      by_cases h1 : n = 1
      · obtain rfl : z = 1 := by omega
        clear hz0
        subst h1
        obtain ⟨c, hc⟩ : ∃ c : Int, c = tried l 1 := ⟨_, rfl⟩
        have hbc : b0 = c := by rw [hc, HB0.out]; rfl
        have HC := Lib.hid hc
        subst hbc
        clear hc
        have ht := test_eq s pos 1 b0 l HL.out HC.out (by omega) (by omega)
        go_wp2
        go_loop [7, 8] (fun v i => v = .int .i64 b0 ∧ i = .int .i64 1) (fun _ _ => 0)
        case atStart => exact ⟨by rw [hbyte], rfl⟩
        case round =>
        obtain ⟨rfl, rfl⟩ := hrel
        by_cases hwd : wide l = 1
        · rw [decide_eq_true hwd] at ht
          have HW := Lib.hid hwd
          clear hwd
          go_wp2
          have e1 : IntKind.i64.wrap ((pos : Int) + 1) = (pos : Int) + 1 := by rw [IntKind.wrap_i64]; omega
          have e2 := slice_run s pos 1 ((pos : Int) + 1) rfl (by omega)
          go_region_with (go_at_call 17; refine (rform_any _ _).mono ?_; rintro e w' ⟨rfl, hB2⟩)
          go_wp2
          go_ret2
          have hwt := wide_tried l (by rw [HW.out]; omega)
          rw [HW.out] at hwt
          exact ⟨ret2_int (by rw [HC.out, hwt]) (by rw [HW.out]; rfl), hB.drew.trans (hB2.mono hB.size)⟩
        · rw [decide_eq_false hwd] at ht
          go_wp2
          have e1 : IntKind.i64.wrap ((pos : Int) + 1) = (pos : Int) + 1 := by rw [IntKind.wrap_i64]; omega
          have e2 := slice_run s pos 1 ((pos : Int) + 1) rfl (by omega)
          go_region_with (go_at_call 17; refine (rform_any _ _).mono ?_; rintro e w' ⟨rfl, hB2⟩)
          go_wp2
          go_roundw
          case rel => exact ⟨2, 2, by omega, by omega, rfl, rfl, hB.drew.trans (hB2.mono hB.size), past_next hw hwd⟩
          case measure => simp [intOf]
      · have hn2 : 2 ≤ n := by omega
        clear hn1 h1
        obtain ⟨m, hm⟩ : ∃ m : Int, m = b0 % 2 ^ (7 - n) := ⟨_, rfl⟩
        obtain ⟨c, hc⟩ : ∃ c : Int, c = tried l n := ⟨_, rfl⟩
        have hcm : c = acc l m (n - 1) := by rw [hc, hm, HB0.out]; unfold tried; rw [if_neg (by omega)]
        have HC := Lib.hid hc
        have HM := Lib.hid hm
        have HCM := Lib.hid hcm
        clear hm hc hcm
        have hm0 : 0 ≤ m ∧ m < 256 := by
          rw [HM.out]
          rcases (by omega : n = 2 ∨ n = 3 ∨ n = 4) with rfl | rfl | rfl <;> simp only [Nat.reduceSub] <;> omega
        rcases (by omega : n = 2 ∨ n = 3 ∨ n = 4) with rfl | rfl | rfl
        · obtain rfl : z = 2 := by omega
          clear hz0
          have ht := test_eq s pos 2 c l HL.out HC.out (by omega) (by omega)
          have dfit : decide ((2 : Int) ≤ (s.size : Int) - (pos : Int)) = true := by rw [decide_eq_true_eq]; omega
          go_wp2
          go_loop [7, 8] (fun v i => ∃ k : Nat, 1 ≤ k ∧ k ≤ 2 ∧ i = .int .i64 k ∧ v = .int .i64 (acc l m (k - 1))) (fun _ i => 2 - (intOf i).toNat)
          case atStart =>
            have hm' : m = b0 % 32 := by have := HM.out; simpa using this
            exact ⟨1, by omega, by omega, rfl, by rw [show acc l m (1 - 1) = m from rfl, hm']⟩
          case round =>
          obtain ⟨k, hk1, hkn, rfl, rfl⟩ := hrel
          clear hbyte
          obtain ⟨v, hv⟩ : ∃ v : Int, v = acc l m (k - 1) := ⟨_, rfl⟩
          have hv0 : 0 ≤ v := by rw [hv]; exact (acc_bound l m hm0 (k - 1) (by omega)).1
          have hv1 : v < 67108864 := by rw [hv]; exact (acc_bound l m hm0 (k - 1) (by omega)).2
          rw [← hv]
          have HV := Lib.hid hv
          clear hv
          by_cases hk : k < 2
          · clear ht dfit
            obtain ⟨x, hx⟩ : ∃ x : Int, x = ((l.getD k 0).toNat : Int) := ⟨_, rfl⟩
            have hx0 : 0 ≤ x := by omega
            have hx1 : x < 256 := by have := UInt8.toNat_lt (l.getD k 0); omega
            have hbk := (byte_at s pos k (by omega)).trans (show _ = x by rw [hx, HL.out])
            have HX := Lib.hid hx
            clear hx
            go_wp2
            go_round
            case rel =>
              refine ⟨k + 1, by omega, by omega, by go_num, ?_⟩
              have : acc l m (k + 1 - 1) = 64 * v + x % 64 := by
                rw [HV.out, HX.out]
                obtain ⟨j, rfl⟩ : ∃ j, k = j + 1 := ⟨k - 1, by omega⟩
                rfl
              rw [this]
            case measure => simp [intOf]; omega
          · obtain rfl : k = 2 := by omega
            have hvc : v = c := by rw [HV.out, HCM.out]
            subst hvc
            by_cases hwd : wide l = 2
            · rw [decide_eq_true hwd] at ht
              have HW := Lib.hid hwd
              clear hwd
              go_wp2
              have e1 : IntKind.i64.wrap ((pos : Int) + 2) = (pos : Int) + 2 := by rw [IntKind.wrap_i64]; omega
              have e2 := slice_run s pos 2 ((pos : Int) + 2) rfl (by omega)
              go_region_with (go_at_call 17; refine (rform_any _ _).mono ?_; rintro e w' ⟨rfl, hB2⟩)
              go_wp2
              go_ret2
              have hwt := wide_tried l (by rw [HW.out]; omega)
              rw [HW.out] at hwt
              exact ⟨ret2_int (by rw [HC.out, hwt]) (by rw [HW.out]; rfl), hB.drew.trans (hB2.mono hB.size)⟩
            · rw [decide_eq_false hwd] at ht
              go_wp2
              have e1 : IntKind.i64.wrap ((pos : Int) + 2) = (pos : Int) + 2 := by rw [IntKind.wrap_i64]; omega
              have e2 := slice_run s pos 2 ((pos : Int) + 2) rfl (by omega)
              go_region_with (go_at_call 17; refine (rform_any _ _).mono ?_; rintro e w' ⟨rfl, hB2⟩)
              go_wp2
              go_roundw
              case rel => exact ⟨3, 3, by omega, by omega, rfl, rfl, hB.drew.trans (hB2.mono hB.size), past_next hw hwd⟩
              case measure => simp [intOf]
        · obtain rfl : z = 3 := by omega
          clear hz0
          have ht := test_eq s pos 3 c l HL.out HC.out (by omega) (by omega)
          have dfit : decide ((3 : Int) ≤ (s.size : Int) - (pos : Int)) = true := by rw [decide_eq_true_eq]; omega
          go_wp2
          go_loop [7, 8] (fun v i => ∃ k : Nat, 1 ≤ k ∧ k ≤ 3 ∧ i = .int .i64 k ∧ v = .int .i64 (acc l m (k - 1))) (fun _ i => 3 - (intOf i).toNat)
          case atStart =>
            have hm' : m = b0 % 16 := by have := HM.out; simpa using this
            exact ⟨1, by omega, by omega, rfl, by rw [show acc l m (1 - 1) = m from rfl, hm']⟩
          case round =>
          obtain ⟨k, hk1, hkn, rfl, rfl⟩ := hrel
          clear hbyte
          obtain ⟨v, hv⟩ : ∃ v : Int, v = acc l m (k - 1) := ⟨_, rfl⟩
          have hv0 : 0 ≤ v := by rw [hv]; exact (acc_bound l m hm0 (k - 1) (by omega)).1
          have hv1 : v < 67108864 := by rw [hv]; exact (acc_bound l m hm0 (k - 1) (by omega)).2
          rw [← hv]
          have HV := Lib.hid hv
          clear hv
          by_cases hk : k < 3
          · clear ht dfit
            obtain ⟨x, hx⟩ : ∃ x : Int, x = ((l.getD k 0).toNat : Int) := ⟨_, rfl⟩
            have hx0 : 0 ≤ x := by omega
            have hx1 : x < 256 := by have := UInt8.toNat_lt (l.getD k 0); omega
            have hbk := (byte_at s pos k (by omega)).trans (show _ = x by rw [hx, HL.out])
            have HX := Lib.hid hx
            clear hx
            go_wp2
            go_round
            case rel =>
              refine ⟨k + 1, by omega, by omega, by go_num, ?_⟩
              have : acc l m (k + 1 - 1) = 64 * v + x % 64 := by
                rw [HV.out, HX.out]
                obtain ⟨j, rfl⟩ : ∃ j, k = j + 1 := ⟨k - 1, by omega⟩
                rfl
              rw [this]
            case measure => simp [intOf]; omega
          · obtain rfl : k = 3 := by omega
            have hvc : v = c := by rw [HV.out, HCM.out]
            subst hvc
            by_cases hwd : wide l = 3
            · rw [decide_eq_true hwd] at ht
              have HW := Lib.hid hwd
              clear hwd
              go_wp2
              have e1 : IntKind.i64.wrap ((pos : Int) + 3) = (pos : Int) + 3 := by rw [IntKind.wrap_i64]; omega
              have e2 := slice_run s pos 3 ((pos : Int) + 3) rfl (by omega)
              go_region_with (go_at_call 17; refine (rform_any _ _).mono ?_; rintro e w' ⟨rfl, hB2⟩)
              go_wp2
              go_ret2
              have hwt := wide_tried l (by rw [HW.out]; omega)
              rw [HW.out] at hwt
              exact ⟨ret2_int (by rw [HC.out, hwt]) (by rw [HW.out]; rfl), hB.drew.trans (hB2.mono hB.size)⟩
            · rw [decide_eq_false hwd] at ht
              go_wp2
              have e1 : IntKind.i64.wrap ((pos : Int) + 3) = (pos : Int) + 3 := by rw [IntKind.wrap_i64]; omega
              have e2 := slice_run s pos 3 ((pos : Int) + 3) rfl (by omega)
              go_region_with (go_at_call 17; refine (rform_any _ _).mono ?_; rintro e w' ⟨rfl, hB2⟩)
              go_wp2
              go_roundw
              case rel => exact ⟨4, 4, by omega, by omega, rfl, rfl, hB.drew.trans (hB2.mono hB.size), past_next hw hwd⟩
              case measure => simp [intOf]
        · obtain rfl : z = 4 := by omega
          clear hz0
          have ht := test_eq s pos 4 c l HL.out HC.out (by omega) (by omega)
          have dfit : decide ((4 : Int) ≤ (s.size : Int) - (pos : Int)) = true := by rw [decide_eq_true_eq]; omega
          go_wp2
          go_loop [7, 8] (fun v i => ∃ k : Nat, 1 ≤ k ∧ k ≤ 4 ∧ i = .int .i64 k ∧ v = .int .i64 (acc l m (k - 1))) (fun _ i => 4 - (intOf i).toNat)
          case atStart =>
            have hm' : m = b0 % 8 := by have := HM.out; simpa using this
            exact ⟨1, by omega, by omega, rfl, by rw [show acc l m (1 - 1) = m from rfl, hm']⟩
          case round =>
          obtain ⟨k, hk1, hkn, rfl, rfl⟩ := hrel
          clear hbyte
          obtain ⟨v, hv⟩ : ∃ v : Int, v = acc l m (k - 1) := ⟨_, rfl⟩
          have hv0 : 0 ≤ v := by rw [hv]; exact (acc_bound l m hm0 (k - 1) (by omega)).1
          have hv1 : v < 67108864 := by rw [hv]; exact (acc_bound l m hm0 (k - 1) (by omega)).2
          rw [← hv]
          have HV := Lib.hid hv
          clear hv
          by_cases hk : k < 4
          · clear ht dfit
            obtain ⟨x, hx⟩ : ∃ x : Int, x = ((l.getD k 0).toNat : Int) := ⟨_, rfl⟩
            have hx0 : 0 ≤ x := by omega
            have hx1 : x < 256 := by have := UInt8.toNat_lt (l.getD k 0); omega
            have hbk := (byte_at s pos k (by omega)).trans (show _ = x by rw [hx, HL.out])
            have HX := Lib.hid hx
            clear hx
            go_wp2
            go_round
            case rel =>
              refine ⟨k + 1, by omega, by omega, by go_num, ?_⟩
              have : acc l m (k + 1 - 1) = 64 * v + x % 64 := by
                rw [HV.out, HX.out]
                obtain ⟨j, rfl⟩ : ∃ j, k = j + 1 := ⟨k - 1, by omega⟩
                rfl
              rw [this]
            case measure => simp [intOf]; omega
          · obtain rfl : k = 4 := by omega
            have hvc : v = c := by rw [HV.out, HCM.out]
            subst hvc
            by_cases hwd : wide l = 4
            · rw [decide_eq_true hwd] at ht
              have HW := Lib.hid hwd
              clear hwd
              go_wp2
              have e1 : IntKind.i64.wrap ((pos : Int) + 4) = (pos : Int) + 4 := by rw [IntKind.wrap_i64]; omega
              have e2 := slice_run s pos 4 ((pos : Int) + 4) rfl (by omega)
              go_region_with (go_at_call 17; refine (rform_any _ _).mono ?_; rintro e w' ⟨rfl, hB2⟩)
              go_wp2
              go_ret2
              have hwt := wide_tried l (by rw [HW.out]; omega)
              rw [HW.out] at hwt
              exact ⟨ret2_int (by rw [HC.out, hwt]) (by rw [HW.out]; rfl), hB.drew.trans (hB2.mono hB.size)⟩
            · rw [decide_eq_false hwd] at ht
              go_wp2
              have e1 : IntKind.i64.wrap ((pos : Int) + 4) = (pos : Int) + 4 := by rw [IntKind.wrap_i64]; omega
              have e2 := slice_run s pos 4 ((pos : Int) + 4) rfl (by omega)
              go_region_with (go_at_call 17; refine (rform_any _ _).mono ?_; rintro e w' ⟨rfl, hB2⟩)
              go_wp2
              go_roundw
              case rel => exact ⟨5, 5, by omega, by omega, rfl, rfl, hB.drew.trans (hB2.mono hB.size), past_next hw hwd⟩
              case measure => simp [intOf]
    · have hz := Lib.hid (past_end hw (.inr (by rw [HN.out]; omega)))
      have hz' := Lib.hid (chr_none hz.out)
      go_wp2
      go_ret2
      exact ⟨ret2_int (by rw [hz'.out]) (by rw [hz.out]; rfl), hB⟩
end Go.Proofs.Ytpbkdgbmnffooaa
