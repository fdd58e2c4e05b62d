/-
  Layer 5: contract of number.sixteen.
-/
import Derived.Test.YtakbhbhikknhkaaR
namespace Go.Proofs.Ytakbhbhikknhkaa
open Go.ChangeShapes Go.WideShapes Go.ChangeAt Go.RowKit

theorem take_bar (s : ByteArray) (hs : s.size ≤ 4611686018427387904) (b q p d k B : Nat) (hB : B ≤ b) (w : World) (hC : Cur w b q p d s k) :
    Calls Try.prog 39 #[.string s, .pointer (some ⟨b, 0, none⟩), .string ⟨#[95]⟩] w fun e w' => e = .returned (.bool (hits [95] s.data.toList k)) ∧ Cur w' b q p d s (if hits [95] s.data.toList k then k + 1 else k) ∧ Below B w w' := take_any s ⟨#[95]⟩ hs b q p d k B hB w hC
theorem take_pow (s : ByteArray) (hs : s.size ≤ 4611686018427387904) (b q p d k B : Nat) (hB : B ≤ b) (w : World) (hC : Cur w b q p d s k) :
    Calls Try.prog 39 #[.string s, .pointer (some ⟨b, 0, none⟩), .string ⟨#[112, 80]⟩] w fun e w' => e = .returned (.bool (hits [112, 80] s.data.toList k)) ∧ Cur w' b q p d s (if hits [112, 80] s.data.toList k then k + 1 else k) ∧ Below B w w' := take_any s ⟨#[112, 80]⟩ hs b q p d k B hB w hC

/-- the kind of what stands behind 0x, as the program has it -/
def hexP (l : List UInt8) : Nat :=
  let lead := hits [95] l 0
  let k1 := if lead then 0 + 1 else 0
  let head := digAt 16 l k1
  let k2 := rowEnd 16 l k1
  let dot := hits [46] l k2
  let k4 := if dot then rowEnd 16 l (k2 + 1) else k2
  let tail := dot && digAt 16 l (k2 + 1)
  let ex := hits [112, 80] l k4
  let k5 := signEnd l (k4 + 1)
  let k6 := rowEnd 10 l k5
  if !head && (lead || !tail) then 0
  else if decide (k4 = l.length) && !dot then 3
  else if !ex then 0
  else if !digAt 10 l k5 || decide (k6 < l.length) then 0
  else 4

set_option maxHeartbeats 4000000 in
theorem sixteen_any (s : ByteArray) (hs : s.size ≤ 4611686018427387904) (w : World) :
    Calls Try.prog 27 #[.string s] w fun e w' => e = .returned (.int .u8 (hexP s.data.toList)) ∧ Below w.heap.size w w' := by
  have hlen : s.data.toList.length = s.size := by simp
  have hnew : (w.alloc (.cells #[.int .i64 0] 3)).heap[w.heap.size]? = some (.cells #[.int .i64 ((0 : Nat) : Int)] 3 (0, 0)) := by
    show (w.heap.push _)[w.heap.size]? = _
    simp
  have hA : Below w.heap.size w (w.alloc (.cells #[.int .i64 0] 3)) := (Below.refl _ w).alloc (Nat.le_refl _) _
  have hrows := rows_ex s w.heap.size 0 (Nat.zero_le _) _ hnew
  have HS := Lib.hid (hA.size)
  obtain ⟨R, hR⟩ : ∃ R, R = hexP s.data.toList := ⟨_, rfl⟩
  rw [← hR]
  unfold hexP at hR
  dsimp only at hR
  obtain ⟨lead, hlead⟩ : ∃ v, v = hits [95] s.data.toList 0 := ⟨_, rfl⟩
  rw [← hlead] at hR
  obtain ⟨k1, hk1⟩ : ∃ v, v = if lead then 0 + 1 else 0 := ⟨_, rfl⟩
  rw [← hk1] at hR
  obtain ⟨head, hhead⟩ : ∃ v, v = digAt 16 s.data.toList k1 := ⟨_, rfl⟩
  obtain ⟨k2, hk2⟩ : ∃ v, v = rowEnd 16 s.data.toList k1 := ⟨_, rfl⟩
  rw [← hhead, ← hk2] at hR
  obtain ⟨dot, hdot⟩ : ∃ v, v = hits [46] s.data.toList k2 := ⟨_, rfl⟩
  rw [← hdot] at hR
  obtain ⟨k4, hk4⟩ : ∃ v, v = if dot then rowEnd 16 s.data.toList (k2 + 1) else k2 := ⟨_, rfl⟩
  obtain ⟨tail, htail⟩ : ∃ v, v = (dot && digAt 16 s.data.toList (k2 + 1)) := ⟨_, rfl⟩
  rw [← hk4, ← htail] at hR
  obtain ⟨ex, hex⟩ : ∃ v, v = hits [112, 80] s.data.toList k4 := ⟨_, rfl⟩
  obtain ⟨k5, hk5⟩ : ∃ v, v = signEnd s.data.toList (k4 + 1) := ⟨_, rfl⟩
  rw [← hex, ← hk5] at hR
  obtain ⟨k6, hk6⟩ : ∃ v, v = rowEnd 10 s.data.toList k5 := ⟨_, rfl⟩
  obtain ⟨d5, hd5⟩ : ∃ v, v = digAt 10 s.data.toList k5 := ⟨_, rfl⟩
  rw [← hk6, ← hd5, hlen] at hR
  have HR := Lib.hid hR
  have H1 := Lib.hid hlead
  have H2 := Lib.hid hk1
  have H3 := Lib.hid hhead
  have H4 := Lib.hid hk2
  have H5 := Lib.hid hdot
  have H6 := Lib.hid hk4
  have H7 := Lib.hid htail
  have H8 := Lib.hid hex
  have H9 := Lib.hid hk5
  have Ha := Lib.hid hk6
  have Hb := Lib.hid hd5
  clear hR hlead hk1 hhead hk2 hdot hk4 htail hex hk5 hk6 hd5 hlen
  go_enter Try.func27, Try.ntmps27
  go_upto_region 6 with (first
      | (go_at_call 28; refine hrows.mono ?_; rintro e w1 ⟨q, p, d, rfl, hC, hB⟩; replace hA := hA.trans (hB.mono HS.out); clear hB)
      | (go_at_call 39; refine (take_bar s hs _ _ _ _ 0 w.heap.size (Nat.le_refl _) _ hC).mono ?_; rintro e w3 ⟨he, hC2, hB⟩; rw [← H1.out] at he hC2; subst he; rw [← H2.out] at hC2; replace hA := hA.trans hB; clear hB hC)
      | (go_at_call 43; refine (row_c s hs 16 _ _ _ _ k1 w.heap.size (Nat.le_refl _) _ hC2).mono ?_; rintro e w2 ⟨he, hC3, hB⟩; rw [← H3.out] at he; subst he; rw [← H4.out] at hC3; replace hA := hA.trans hB; clear hB hC2)
      | (go_at_call 39; refine (take_dot s hs _ _ _ _ k2 w.heap.size (Nat.le_refl _) _ hC3).mono ?_; rintro e w3 ⟨he, hC4, hB⟩; rw [← H5.out] at he hC4; subst he; replace hA := hA.trans hB; clear hB hC3))
  clear hrows
  go_cut [8] from 17 to 21 (fun v wx => v = .bool tail ∧ Cur wx w.heap.size q p d s k4 ∧ Below w.heap.size w wx)
  case first =>
    cases dot with
    | false =>
      have e3 : k4 = k2 := H6.out
      have et : tail = false := H7.out
      subst et
      have HC := Lib.hid hC4
      have he3 := Lib.hid e3
      clear hC4 e3
      go_wp2
      go_meet
      exact ⟨rfl, by rw [he3.out]; exact HC.out, hA⟩
    | true =>
      have e3 : k4 = rowEnd 16 s.data.toList (k2 + 1) := H6.out
      have et : tail = digAt 16 s.data.toList (k2 + 1) := by rw [H7.out]; rfl
      have he3 := Lib.hid e3
      have het := Lib.hid et
      clear e3 et
      go_wp2_with (go_at_call 43; refine (row_c s hs 16 _ _ _ _ (k2 + 1) w.heap.size (Nat.le_refl _) _ hC4).mono ?_; rintro e w4 ⟨he, hC5, hB⟩; rw [← het.out] at he; subst he; rw [← he3.out] at hC5; replace hA := hA.trans hB; clear hB hC4)
      go_meet
      exact ⟨rfl, hC5, hA⟩
  case rest =>
    obtain ⟨rfl, hC, hA⟩ := hcut
    clear hC4
    go_upto_region 7 with fail
    go_cut [30] from 22 to 30 (fun v wx => v = .bool (!head && (lead || !tail)) ∧ wx = wc)
    case first =>
      clear hC hA
      cases head <;> cases lead <;> cases tail
      all_goals
        (go_wp2
         go_meet
         exact ⟨rfl, rfl⟩)
    case rest =>
    obtain ⟨rfl, rfl⟩ := hcut
    cases hbad : (!head && (lead || !tail)) with
    | true =>
      have hRz : R = 0 := by rw [HR.out, if_pos hbad]
      subst hRz
      clear hbad
      go_wp2
      go_ret
      exact ⟨rfl, hA⟩
    | false =>
      have HR2 := Lib.hid (show R = if (decide (k4 = s.size) && !dot) = true then 3 else if (!ex) = true then 0 else if (!d5 || decide (k6 < s.size)) = true then 0 else 4 by rw [HR.out, if_neg (by rw [hbad]; decide)])
      clear hbad
      have c4 := cell_of hC.cb
      have HC := Lib.hid hC
      clear hC
      go_upto_region 9 with fail
      go_cut [38] from 31 to 38 (fun v wx => v = .bool (decide (k4 = s.size) && !dot) ∧ wx = wc)
      case first =>
        clear hA
        by_cases h4 : k4 = s.size
        · have d1 : ((k4 : Int) == s.size) = true := by rw [beq_iff_eq]; omega
          have HD := Lib.hid (show decide (k4 = s.size) = true from decide_eq_true h4)
          clear h4
          cases dot
          all_goals
            (go_wp2
             go_meet
             exact ⟨by rw [HD.out]; rfl, rfl⟩)
        · have d1 : ((k4 : Int) == s.size) = false := by rw [beq_eq_false_iff_ne]; omega
          have HD := Lib.hid (show decide (k4 = s.size) = false from decide_eq_false h4)
          clear h4
          go_wp2
          go_meet
          exact ⟨by rw [HD.out]; rfl, rfl⟩
      case rest =>
      obtain ⟨rfl, rfl⟩ := hcut
      cases hint : (decide (k4 = s.size) && !dot) with
      | true =>
        have hRz : R = 3 := by rw [HR2.out, if_pos hint]
        subst hRz
        clear hint
        go_wp2
        go_ret
        exact ⟨rfl, hA⟩
      | false =>
        have HR3 := Lib.hid (show R = if (!ex) = true then 0 else if (!d5 || decide (k6 < s.size)) = true then 0 else 4 by rw [HR2.out, if_neg (by rw [hint]; decide)])
        have hC := HC.out
        clear hint c4
        cases ex with
        | false =>
          have hRz : R = 0 := HR3.out
          subst hRz
          go_wp2_with (go_at_call 39; refine (take_pow s hs _ _ _ _ k4 w.heap.size (Nat.le_refl _) _ hC).mono ?_; rintro e w3 ⟨he, hC5, hB⟩; rw [← H8.out] at he; subst he; replace hA := hA.trans hB; clear hB hC hC5)
          go_ret
          exact ⟨rfl, hA⟩
        | true =>
          have HX := Lib.hid (show (if hits [112, 80] s.data.toList k4 = true then k4 + 1 else k4) = k4 + 1 by rw [← H8.out]; rfl)
          have HY := Lib.hid (show (if hits [43, 45] s.data.toList (k4 + 1) = true then k4 + 1 + 1 else k4 + 1) = k5 from H9.out.symm)
          have HR4 := Lib.hid (show R = if (!d5 || decide (k6 < s.size)) = true then 0 else 4 from HR3.out)
          cases d5 with
          | false =>
            have hRz : R = 0 := HR4.out
            subst hRz
            go_wp2_with (first
              | (go_at_call 39; refine (take_pow s hs _ _ _ _ k4 w.heap.size (Nat.le_refl _) _ hC).mono ?_; rintro e w3 ⟨he, hC5, hB⟩; rw [← H8.out] at he; subst he; rw [HX.out] at hC5; replace hA := hA.trans hB; clear hB hC)
              | (go_at_call 39; refine (take_sign s hs _ _ _ _ (k4 + 1) w.heap.size (Nat.le_refl _) _ hC5).mono ?_; rintro e w5 ⟨he, hC6, hB⟩; subst he; rw [HY.out] at hC6; replace hA := hA.trans hB; clear hB hC5)
              | (go_at_call 43; refine (row_c s hs 10 _ _ _ _ k5 w.heap.size (Nat.le_refl _) _ hC6).mono ?_; rintro e w6 ⟨he, hC7, hB⟩; rw [← Hb.out] at he; subst he; replace hA := hA.trans hB; clear hB hC6 hC7))
            go_ret
            exact ⟨rfl, hA⟩
          | true =>
            by_cases hlt : k6 < s.size
            · have hRz : R = 0 := by rw [HR4.out, decide_eq_true hlt]; rfl
              subst hRz
              have d1 : (k6 : Int) < s.size := by omega
              go_wp2_with (first
                | (go_at_call 39; refine (take_pow s hs _ _ _ _ k4 w.heap.size (Nat.le_refl _) _ hC).mono ?_; rintro e w3 ⟨he, hC5, hB⟩; rw [← H8.out] at he; subst he; rw [HX.out] at hC5; replace hA := hA.trans hB; clear hB hC)
                | (go_at_call 39; refine (take_sign s hs _ _ _ _ (k4 + 1) w.heap.size (Nat.le_refl _) _ hC5).mono ?_; rintro e w5 ⟨he, hC6, hB⟩; subst he; rw [HY.out] at hC6; replace hA := hA.trans hB; clear hB hC5)
                | (go_at_call 43; refine (row_c s hs 10 _ _ _ _ k5 w.heap.size (Nat.le_refl _) _ hC6).mono ?_; rintro e w6 ⟨he, hC7, hB⟩; rw [← Hb.out] at he; rw [← Ha.out] at hC7; have c7 := cell_of hC7.cb; subst he; replace hA := hA.trans hB; clear hB hC6 hC7))
              go_ret
              exact ⟨rfl, hA⟩
            · have hRz : R = 4 := by rw [HR4.out, decide_eq_false hlt]; rfl
              subst hRz
              have d1 : ¬ (k6 : Int) < s.size := by omega
              go_wp2_with (first
                | (go_at_call 39; refine (take_pow s hs _ _ _ _ k4 w.heap.size (Nat.le_refl _) _ hC).mono ?_; rintro e w3 ⟨he, hC5, hB⟩; rw [← H8.out] at he; subst he; rw [HX.out] at hC5; replace hA := hA.trans hB; clear hB hC)
                | (go_at_call 39; refine (take_sign s hs _ _ _ _ (k4 + 1) w.heap.size (Nat.le_refl _) _ hC5).mono ?_; rintro e w5 ⟨he, hC6, hB⟩; subst he; rw [HY.out] at hC6; replace hA := hA.trans hB; clear hB hC5)
                | (go_at_call 43; refine (row_c s hs 10 _ _ _ _ k5 w.heap.size (Nat.le_refl _) _ hC6).mono ?_; rintro e w6 ⟨he, hC7, hB⟩; rw [← Hb.out] at he; rw [← Ha.out] at hC7; have c7 := cell_of hC7.cb; subst he; replace hA := hA.trans hB; clear hB hC6 hC7))
              go_ret
              exact ⟨rfl, hA⟩
end Go.Proofs.Ytakbhbhikknhkaa
