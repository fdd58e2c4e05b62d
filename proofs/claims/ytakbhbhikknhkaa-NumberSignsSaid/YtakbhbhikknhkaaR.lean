/-
  Layer 5: contracts of number.whole and decimal.
-/
import Derived.Test.YtakbhbhikknhkaaQ
import Derived.Laws.Strings
namespace Go.Proofs.Ytakbhbhikknhkaa
open Go.ChangeShapes Go.WideShapes Go.ChangeAt Go.RowKit

/-- what stands behind the sign of a base, as the program has it -/
def wholeP (base : Nat) (l : List UInt8) : Nat := if isRow? base (Lib.trimPrefix l [95]) then 3 else 0
theorem trim_short (l p : List UInt8) : (Lib.trimPrefix l p).length ≤ l.length := by
  unfold Lib.trimPrefix
  split
  · simp
  · exact Nat.le_refl _
set_option maxHeartbeats 1000000 in
theorem whole_any (s : ByteArray) (hs : s.size ≤ 4611686018427387904) (base : Nat) (w : World) :
    Calls Try.prog 26 #[.string s, .int .i64 base] w fun e w' => e = .returned (.int .u8 (wholeP base s.data.toList)) ∧ Below w.heap.size w w' := by
  obtain ⟨t, ht⟩ : ∃ t : ByteArray, t = ⟨(Lib.trimPrefix s.data.toList [95]).toArray⟩ := ⟨_, rfl⟩
  have htl : t.data.toList = Lib.trimPrefix s.data.toList [95] := by rw [ht]
  have hts : t.size ≤ 4611686018427387904 := by
    have h1 : t.size = t.data.toList.length := by simp
    have h2 := trim_short s.data.toList [95]
    have h3 : s.data.toList.length = s.size := by simp
    rw [h1, htl]; omega
  have hc := fun w => Try.strings_TrimPrefix s ⟨#[95]⟩ w
  rw [show (⟨(Lib.trimPrefix s.data.toList (⟨#[95]⟩ : ByteArray).data.toList).toArray⟩ : ByteArray) = t from ht.symm] at hc
  have hr := isRow_any t hts base
  obtain ⟨v, hv⟩ : ∃ v, v = isRow? base t.data.toList := ⟨_, rfl⟩
  rw [← hv] at hr
  have hw : wholeP base s.data.toList = if v then 3 else 0 := by unfold wholeP; rw [hv, htl]
  rw [hw]
  clear hw hv htl ht
  cases v
  all_goals
    (go_enter Try.func26, Try.ntmps26
     go_wp2_with (first
      | (go_at_call 40; refine (hc _).mono ?_; rintro e w1 ⟨rfl, hw⟩; rw [hw]; clear hw w1)
      | (go_at_call 17; refine (hr _).mono ?_; rintro e w1 ⟨rfl, hB⟩))
     go_ret
     exact ⟨rfl, hB⟩)

theorem take_dot (s : ByteArray) (hs : s.size ≤ 4611686018427387904) (b q p d k B : Nat) (hB : B ≤ b) (w : World) (hC : Cur w b q p d s k) :
    Calls Try.prog 39 #[.string s, .pointer (some ⟨b, 0, none⟩), .string ⟨#[46]⟩] w fun e w' => e = .returned (.bool (hits [46] s.data.toList k)) ∧ Cur w' b q p d s (if hits [46] s.data.toList k then k + 1 else k) ∧ Below B w w' := take_any s ⟨#[46]⟩ hs b q p d k B hB w hC
theorem take_exp (s : ByteArray) (hs : s.size ≤ 4611686018427387904) (b q p d k B : Nat) (hB : B ≤ b) (w : World) (hC : Cur w b q p d s k) :
    Calls Try.prog 39 #[.string s, .pointer (some ⟨b, 0, none⟩), .string ⟨#[101, 69]⟩] w fun e w' => e = .returned (.bool (hits [101, 69] s.data.toList k)) ∧ Cur w' b q p d s (if hits [101, 69] s.data.toList k then k + 1 else k) ∧ Below B w w' := take_any s ⟨#[101, 69]⟩ hs b q p d k B hB w hC
theorem take_sign (s : ByteArray) (hs : s.size ≤ 4611686018427387904) (b q p d k B : Nat) (hB : B ≤ b) (w : World) (hC : Cur w b q p d s k) :
    Calls Try.prog 39 #[.string s, .pointer (some ⟨b, 0, none⟩), .string ⟨#[43, 45]⟩] w fun e w' => e = .returned (.bool (hits [43, 45] s.data.toList k)) ∧ Cur w' b q p d s (if hits [43, 45] s.data.toList k then k + 1 else k) ∧ Below B w w' := take_any s ⟨#[43, 45]⟩ hs b q p d k B hB w hC

theorem list_is' (b : ByteArray) : b.toList = b.data.toList := by
  unfold ByteArray.toList
  rw [ByteArray.toList_loop_eq b b.size 0 [] (by omega) (by omega)]; simp
/-- where a row or none ends -/
def signEnd (l : List UInt8) (k : Nat) : Nat := if hits [43, 45] l k then k + 1 else k
/-- a text's kind where no sign of a base stands ahead, as the program has it -/
def decP (l : List UInt8) : Nat :=
  let k1 := rowEnd 10 l 0
  let dot := hits [46] l k1
  let k3 := if dot then rowEnd 10 l (k1 + 1) else k1
  let tail := dot && digAt 10 l (k1 + 1)
  let ex := hits [101, 69] l k3
  let k5 := signEnd l (k3 + 1)
  let k6 := if ex then rowEnd 10 l k5 else k3
  if ex && !digAt 10 l k5 then 0
  else if (!digAt 10 l 0 && !tail) || decide (k6 < l.length) then 0
  else if dot || ex then 4
  else if decide (l = [48]) || !decide (l.head? = some 48) then 3
  else wholeP 8 (l.drop 1)

set_option maxHeartbeats 4000000 in
theorem decimal_any (s : ByteArray) (hs : s.size ≤ 4611686018427387904) (w : World) :
    Calls Try.prog 25 #[.string s] w fun e w' => e = .returned (.int .u8 (decP s.data.toList)) ∧ Below w.heap.size w w' := by
  have hlen : s.data.toList.length = s.size := by simp
  have hnew : (w.alloc (.cells #[.int .i64 0] 3)).heap[w.heap.size]? = some (.cells #[.int .i64 ((0 : Nat) : Int)] 3 (0, 0)) := by
    show (w.heap.push _)[w.heap.size]? = _
    simp
  have hA : Below w.heap.size w (w.alloc (.cells #[.int .i64 0] 3)) := (Below.refl _ w).alloc (Nat.le_refl _) _
  have hrows := rows_ex s w.heap.size 0 (Nat.zero_le _) _ hnew
  have HS := Lib.hid (hA.size)
  obtain ⟨R, hR⟩ : ∃ R, R = decP s.data.toList := ⟨_, rfl⟩
  rw [← hR]
  unfold decP at hR
  dsimp only at hR
  obtain ⟨head, hhead⟩ : ∃ v, v = digAt 10 s.data.toList 0 := ⟨_, rfl⟩
  obtain ⟨k1, hk1⟩ : ∃ v, v = rowEnd 10 s.data.toList 0 := ⟨_, rfl⟩
  rw [← hhead, ← hk1] at hR
  obtain ⟨dot, hdot⟩ : ∃ v, v = hits [46] s.data.toList k1 := ⟨_, rfl⟩
  rw [← hdot] at hR
  obtain ⟨k3, hk3⟩ : ∃ v, v = if dot then rowEnd 10 s.data.toList (k1 + 1) else k1 := ⟨_, rfl⟩
  obtain ⟨tail, htail⟩ : ∃ v, v = (dot && digAt 10 s.data.toList (k1 + 1)) := ⟨_, rfl⟩
  rw [← hk3, ← htail] at hR
  obtain ⟨ex, hex⟩ : ∃ v, v = hits [101, 69] s.data.toList k3 := ⟨_, rfl⟩
  obtain ⟨k5, hk5⟩ : ∃ v, v = signEnd s.data.toList (k3 + 1) := ⟨_, rfl⟩
  rw [← hex, ← hk5] at hR
  obtain ⟨k6, hk6⟩ : ∃ v, v = if ex then rowEnd 10 s.data.toList k5 else k3 := ⟨_, rfl⟩
  obtain ⟨d5, hd5⟩ : ∃ v, v = digAt 10 s.data.toList k5 := ⟨_, rfl⟩
  rw [← hk6, ← hd5, hlen] at hR
  have HR := Lib.hid hR
  have H1 := Lib.hid hhead
  have H2 := Lib.hid hk1
  have H3 := Lib.hid hdot
  have H4 := Lib.hid hk3
  have H5 := Lib.hid htail
  have H6 := Lib.hid hex
  have H7 := Lib.hid hk5
  have H8 := Lib.hid hk6
  have H9 := Lib.hid hd5
  clear hR hhead hk1 hdot hk3 htail hex hk5 hk6 hd5 hlen
  go_enter Try.func25, Try.ntmps25
  go_upto_region 5 with (first
      | (go_at_call 28; refine hrows.mono ?_; rintro e w1 ⟨q, p, d, rfl, hC, hB⟩; replace hA := hA.trans (hB.mono HS.out); clear hB)
      | (go_at_call 43; refine (row_c s hs 10 _ _ _ _ 0 w.heap.size (Nat.le_refl _) _ hC).mono ?_; rintro e w2 ⟨he, hC2, hB⟩; rw [← H1.out] at he; subst he; rw [← H2.out] at hC2; replace hA := hA.trans hB; clear hB hC)
      | (go_at_call 39; refine (take_dot s hs _ _ _ _ k1 w.heap.size (Nat.le_refl _) _ hC2).mono ?_; rintro e w3 ⟨he, hC3, hB⟩; rw [← H3.out] at he hC3; subst he; replace hA := hA.trans hB; clear hB hC2))
  clear hrows
  go_cut [7] from 14 to 18 (fun v wx => v = .bool tail ∧ Cur wx w.heap.size q p d s k3 ∧ Below w.heap.size w wx)
  case first =>
    cases dot with
    | false =>
      have e3 : k3 = k1 := H4.out
      have et : tail = false := H5.out
      subst et
      have HC := Lib.hid hC3
      have he3 := Lib.hid e3
      clear hC3 e3
      go_wp2
      go_meet
      exact ⟨rfl, by rw [he3.out]; exact HC.out, hA⟩
    | true =>
      have e3 : k3 = rowEnd 10 s.data.toList (k1 + 1) := H4.out
      have et : tail = digAt 10 s.data.toList (k1 + 1) := by rw [H5.out]; rfl
      have he3 := Lib.hid e3
      have het := Lib.hid et
      clear e3 et
      go_wp2_with (go_at_call 43; refine (row_c s hs 10 _ _ _ _ (k1 + 1) w.heap.size (Nat.le_refl _) _ hC3).mono ?_; rintro e w4 ⟨he, hC4, hB⟩; rw [← het.out] at he; subst he; rw [← he3.out] at hC4; replace hA := hA.trans hB; clear hB hC3)
      go_meet
      exact ⟨rfl, hC4, hA⟩
  case rest =>
    obtain ⟨rfl, hC, hA⟩ := hcut
    go_upto_if 20 with (go_at_call 39; refine (take_exp s hs _ _ _ _ k3 w.heap.size (Nat.le_refl _) _ hC).mono ?_; rintro e w3 ⟨he, hC5, hB⟩; rw [← H6.out] at he hC5; subst he; replace hA := hA.trans hB; clear hB hC)
    cases hx : (ex && !d5) with
    | true =>
      have hx2 := hx
      rw [Bool.and_eq_true] at hx2
      obtain ⟨hx3, hx4⟩ := hx2
      have hd5 : d5 = false := by simpa using hx4
      subst hx3
      subst hd5
      have hRz : R = 0 := by rw [HR.out]; rfl
      subst hRz
      clear hx hx4
      go_wp2_with (first
        | (go_at_call 39; refine (take_sign s hs _ _ _ _ (k3 + 1) w.heap.size (Nat.le_refl _) _ hC5).mono ?_; rintro e w5 ⟨he, hC6, hB⟩; subst he; rw [show (if hits [43, 45] s.data.toList (k3 + 1) then k3 + 1 + 1 else k3 + 1) = k5 from H7.out.symm] at hC6; replace hA := hA.trans hB; clear hB hC5)
        | (go_at_call 43; refine (row_c s hs 10 _ _ _ _ k5 w.heap.size (Nat.le_refl _) _ hC6).mono ?_; rintro e w6 ⟨he, hC7, hB⟩; rw [← H9.out] at he; subst he; replace hA := hA.trans hB; clear hB hC6 hC7))
      go_ret
      exact ⟨rfl, hA⟩
    | false =>
      go_cut [6] from 21 to 25 (fun v wx => v = .bool (dot || ex) ∧ Cur wx w.heap.size q p d s k6 ∧ Below w.heap.size w wx)
      case first =>
        cases ex with
        | false =>
          have e6 : k6 = k3 := H8.out
          have he6 := Lib.hid e6
          have HC := Lib.hid hC5
          clear e6 hC5
          go_wp2
          go_meet
          exact ⟨by cases dot <;> rfl, by rw [he6.out]; exact HC.out, hA⟩
        | true =>
          have hd5 : d5 = true := by simpa using hx
          subst hd5
          have e6 : k6 = rowEnd 10 s.data.toList k5 := H8.out
          have he6 := Lib.hid e6
          clear e6 hx
          go_wp2_with (first
            | (go_at_call 39; refine (take_sign s hs _ _ _ _ (k3 + 1) w.heap.size (Nat.le_refl _) _ hC5).mono ?_; rintro e w5 ⟨he, hC6, hB⟩; subst he; rw [show (if hits [43, 45] s.data.toList (k3 + 1) then k3 + 1 + 1 else k3 + 1) = k5 from H7.out.symm] at hC6; replace hA := hA.trans hB; clear hB hC5)
            | (go_at_call 43; refine (row_c s hs 10 _ _ _ _ k5 w.heap.size (Nat.le_refl _) _ hC6).mono ?_; rintro e w6 ⟨he, hC7, hB⟩; rw [← H9.out] at he; subst he; rw [← he6.out] at hC7; replace hA := hA.trans hB; clear hB hC6))
          go_meet
          exact ⟨by cases dot <;> rfl, hC7, hA⟩
      case rest =>
        obtain ⟨rfl, hC, hA⟩ := hcut
        clear hC5
        obtain ⟨br, hbr⟩ : ∃ v, v = (dot || ex) := ⟨_, rfl⟩
        rw [← hbr]
        have c6 := cell_of hC.cb
        have hR2 : R = if ((!head && !tail) || decide (k6 < s.size)) = true then 0 else if br = true then 4 else if (decide (s.data.toList = [48]) || !decide (s.data.toList.head? = some 48)) = true then 3 else wholeP 8 (s.data.toList.drop 1) := by
          rw [HR.out, hx, hbr]; rfl
        have HR2 := Lib.hid hR2
        have HBR := Lib.hid hbr
        clear hC hx hR2 hbr
        by_cases hbad : head = false ∧ tail = false
        · obtain ⟨rfl, rfl⟩ := hbad
          have hRz : R = 0 := by rw [HR2.out]; rfl
          subst hRz
          go_wp2
          go_ret
          exact ⟨rfl, hA⟩
        · by_cases hlt : k6 < s.size
          · have hRz : R = 0 := by rw [HR2.out, decide_eq_true hlt]; simp
            subst hRz
            have d1 : (k6 : Int) < s.size := by omega
            clear hbad
            cases head <;> cases tail
            all_goals
              (go_wp2
               go_ret
               exact ⟨rfl, hA⟩)
          · have d1 : ¬ (k6 : Int) < s.size := by omega
            have hok : ((!head && !tail) || decide (k6 < s.size)) = false := by
              rw [decide_eq_false hlt, Bool.or_false]
              cases head <;> cases tail <;> simp at hbad ⊢
            have HR3 := Lib.hid (show R = if br = true then 4 else if (decide (s.data.toList = [48]) || !decide (s.data.toList.head? = some 48)) = true then 3 else wholeP 8 (s.data.toList.drop 1) by rw [HR2.out, hok]; rfl)
            clear hok
            cases br with
            | true =>
              have hRz : R = 4 := HR3.out
              subst hRz
              cases head <;> cases tail
              case false.false => exact absurd ⟨rfl, rfl⟩ hbad
              all_goals
                (clear hbad
                 go_wp2
                 go_ret
                 exact ⟨rfl, hA⟩)
            | false =>
              have hdf : dot = false := by have := HBR.out; cases dot <;> cases ex <;> simp at this ⊢
              have htf : tail = false := by rw [H5.out, hdf]; rfl
              subst htf
              have hht : head = true := by cases head <;> simp at hbad ⊢
              subst hht
              clear hbad
              have h0 : 0 < s.size := by
                have h := H1.out
                by_cases h2 : 0 < s.size
                · exact h2
                · rw [digAt_out s 10 0 (by omega)] at h; cases h
              have d0 : (0 : Int) < s.size := by omega
              have b0 := bytes_n s[0] 48 48 rfl
              have hh := one_of s h0
              by_cases hq : s.data.toList = [48]
              · have hRz : R = 3 := by rw [HR3.out, decide_eq_true hq]; rfl
                subst hRz
                have hq2 : (s.toList == [48]) = true := by rw [list_is', hq]; rfl
                clear hq hh b0
                go_wp2
                go_ret
                exact ⟨rfl, hA⟩
              · have hq2 : (s.toList == [48]) = false := by rw [list_is']; simpa using hq
                by_cases h48 : s[0] = 48
                · have b1 : ((s[0].toNat : Int) != 48) = false := by rw [bne, b0]; simpa using h48
                  have hRz : R = wholeP 8 (s.extract 1 s.size).data.toList := by
                    rw [HR3.out, hh, h48, decide_eq_false hq, extract_drop]; simp
                  have hz : (s.extract 1 s.size).size ≤ 4611686018427387904 := by simp; omega
                  have hwc := whole_any _ hz 8
                  rw [← hRz] at hwc
                  clear hq hh b0 h48 hRz
                  go_wp2_with (go_at_call 26; refine (hwc _).mono ?_; rintro e w7 ⟨rfl, hB⟩; replace hA := hA.trans (hB.mono hA.size); clear hB)
                  go_ret
                  exact ⟨rfl, hA⟩
                · have b1 : ((s[0].toNat : Int) != 48) = true := by rw [bne, b0]; simpa using h48
                  have hRz : R = 3 := by
                    rw [HR3.out, hh, decide_eq_false hq]; simp [h48]
                  subst hRz
                  clear hq hh b0 h48
                  go_wp2
                  go_ret
                  exact ⟨rfl, hA⟩
end Go.Proofs.Ytakbhbhikknhkaa
