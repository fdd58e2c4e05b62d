/-
  Layer 5: contract of the document's Run where a number begins.
-/
import Derived.Test.YtakbhbhikknhkaaM
import Derived.Deep.LoopGhost
import Derived.Deep.CutRange
import Derived.Deep.DeepCutAuto
namespace Go.Proofs.Ytakbhbhikknhkaa
open Go.ChangeShapes Go.WideShapes Go.ChangeAt Go.RowKit

theorem drop_at (s : ByteArray) (a k : Nat) (h1 : a ≤ k) (h2 : k < s.size) : (s.data.toList.drop a)[k - a]? = some s[k] := by
  rw [List.getElem?_drop, show a + (k - a) = k by omega]; exact at_of s k h2
theorem goes_tail {hex : Bool} {t : List UInt8} {j : Nat} {c : UInt8} (h : t[j]? = some c) (hc : tail? c = true) : goesOn hex t j = true := by
  cases j with
  | zero => simp only [goesOn, h, hc]
  | succ j =>
    have hj : j < t.length := by have := (List.getElem?_eq_some_iff.1 h).1; omega
    simp only [goesOn, h, List.getElem?_eq_getElem hj, hc, Bool.true_or]
theorem goes_first {hex : Bool} {t : List UInt8} {c : UInt8} (h : t[0]? = some c) (hc : tail? c = false) : goesOn hex t 0 = false := by
  simp only [goesOn, h, hc]
theorem goes_sign {hex : Bool} {t : List UInt8} {j : Nat} {c d : UInt8} (h : t[j + 1]? = some c) (hd : t[j]? = some d) (hc : tail? c = false) : goesOn hex t (j + 1) = ((decide (c = 43) || decide (c = 45)) && power? hex d) := by
  simp only [goesOn, h, hd, hc, Bool.false_or]

set_option maxRecDepth 100000 in
set_option maxHeartbeats 8000000 in
/-- a number begins there -/
theorem refRun_yes (s : ByteArray) (hs : s.size ≤ 1048576) (a : Nat) (ia : a < s.size) (hst : starts (s.data.toList.drop a) = true) (w : World) :
    Calls Try.prog 23 #[.string s, .int .i64 a] w fun e w' => e = .returned (.int .i64 ((a + runLen (s.data.toList.drop a) : Nat) : Int)) ∧ Below w.heap.size w w' := by
  have hA : Below w.heap.size w w := Below.refl _ _
  have hl : s.data.toList.length = s.size := by simp
  rw [starts_at s a ia] at hst
  have b0 := bytes_n s[a] 46 46 rfl
  obtain ⟨N, hN⟩ : ∃ N, N = a + runLen (s.data.toList.drop a) := ⟨_, rfl⟩
  rw [← hN]
  have HN := Lib.hid (show N = a + runFrom (goesOn (head? 120 88 (s.data.toList.drop a)) (s.data.toList.drop a)) (s.size - a) 0 by rw [hN]; unfold runLen; rw [List.length_drop, hl])
  have hz : (s.extract a s.size).size ≤ 1048576 := by simp; omega
  have HE := Lib.hid (extract_drop s a)
  obtain ⟨hex, hhex⟩ : ∃ hex, hex = head? 120 88 (s.extract a s.size).data.toList := ⟨_, rfl⟩
  have HN2 := Lib.hid (show N = a + runFrom (goesOn hex (s.data.toList.drop a)) (s.size - a) 0 by rw [HN.out, hhex, HE.out])
  have hhd := fun w => headed_x (s.extract a s.size) hz w
  rw [← hhex] at hhd
  obtain ⟨f, hf⟩ : ∃ f, f = goesOn hex (s.data.toList.drop a) := ⟨_, rfl⟩
  have HF := Lib.hid hf
  replace HN2 := Lib.hid (show N = a + runFrom f (s.size - a) 0 by rw [hf, HN2.out])
  clear hN HN hhex HE hl hf
  have hent : dig 10 s[a] = true ∨ (dig 10 s[a] = false ∧ s[a] = 46 ∧ ∃ h : a + 1 < s.size, dig 10 s[a + 1] = true) := by
    cases hd0 : dig 10 s[a] with
    | true => exact .inl rfl
    | false =>
      rw [hd0, Bool.false_or, Bool.and_eq_true, decide_eq_true_eq] at hst
      by_cases h4 : a + 1 < s.size
      · rw [dif_pos h4] at hst; exact .inr ⟨rfl, hst.1, h4, hst.2⟩
      · rw [dif_neg h4] at hst; exact absurd hst.2 (by decide)
  clear hst
  have t1 : True := trivial
  go_enter Try.func23, Try.ntmps23
  go_upto_region 1 with fail
  go_cut [43] from 8 to 135 (fun v wx => v = .bool false ∧ Below w.heap.size w wx)
  case first =>
    rcases hent with hd0 | ⟨hd0, h46, h4, hd1⟩
    · go_wp2_with (go_at_call 33; refine (digit_any s[a] 10 (by decide) _).mono ?_; rintro e w1 ⟨he, hB1⟩; rw [hd0] at he; subst he; replace hA := hA.trans (hB1.mono hA.size); clear hB1)
      go_meet
      exact ⟨by first | rfl | (simp; omega), hA⟩
    · have c0 : ((s[a].toNat : Int) != 46) = false := by rw [bne, b0]; simpa using h46
      have c1 : ((a : Int) + 1 == (s.size : Int)) = false := by rw [beq_eq_false_iff_ne]; omega
      clear b0 h46
      go_wp2_with (first
        | (go_at_call 33; clear t1; refine (digit_any s[a] 10 (by decide) _).mono ?_; rintro e w1 ⟨he, hB1⟩; rw [hd0] at he; subst he; replace hA := hA.trans (hB1.mono hA.size); clear hB1)
        | (go_at_call 33; refine (digit_any s[a + 1] 10 (by decide) _).mono ?_; rintro e w1 ⟨he, hB1⟩; rw [hd1] at he; subst he; replace hA := hA.trans (hB1.mono hA.size); clear hB1))
      go_meet
      exact ⟨by first | rfl | (simp; omega), hA⟩
  case rest =>
    obtain ⟨rfl, hA⟩ := hcut
    clear hent b0
    go_wp2_with (go_at_call 30; refine (hhd _).mono ?_; rintro e w1 ⟨he, hw⟩; rw [hw]; subst he; clear hw w1)
    clear hhd
    go_loopg [6] (s.size - a) (fun g ii wr => ∃ k : Nat, g = s.size - k ∧ a ≤ k ∧ k ≤ s.size ∧ ii = .int .i64 k ∧ Below w.heap.size w wr ∧ Hid (N = a + runFrom f (s.size - k) (k - a)))
    case atStart => exact ⟨a, rfl, Nat.le_refl _, by omega, rfl, hA, Lib.hid (by rw [HN2.out, Nat.sub_self])⟩
    case round =>
      obtain ⟨k, rfl, hak, hk, rfl, hB, hR⟩ := hrel
      by_cases hlt : k < s.size
      · have hT := Lib.hid (drop_at s a k hak hlt)
        have hstep := hR.out
        rw [show s.size - k = (s.size - (k + 1)) + 1 by omega] at hstep
        unfold runFrom at hstep
        have HS := Lib.hid hstep
        clear hstep hR
        go_upto_region 8 with fail
        go_cut [88] from 50 to 133 (fun v wx => v = .bool (tail? s[k]) ∧ wx = wr)
        case first =>
          cases htl : tail? s[k] with
          | true =>
            have htc := tail_cases htl
            have HTL := Lib.hid htl
            clear htl
            rcases htc with ⟨h1, h2⟩ | ⟨h1, h2⟩ | ⟨h1, h2⟩ | h1 | h1
            all_goals
              (go_wp2
               go_meet
               exact ⟨by rw [HTL.out]; first | done | rfl | (simp; omega), rfl⟩)
          | false =>
            have hcl : (s[k].toNat < 48 ∨ (57 < s[k].toNat ∧ s[k].toNat < 65) ∨ (90 < s[k].toNat ∧ s[k].toNat < 97) ∨ 122 < s[k].toNat) ∧ s[k].toNat ≠ 95 ∧ s[k].toNat ≠ 46 := by
              obtain ⟨h1, h2, h3, h4, h5⟩ := tail_no htl
              exact ⟨by omega, h4, h5⟩
            have b95 : ((s[k].toNat : Int) == 95) = false := by rw [beq_eq_false_iff_ne]; have := hcl.2.1; omega
            have b46 : ((s[k].toNat : Int) == 46) = false := by rw [beq_eq_false_iff_ne]; have := hcl.2.2; omega
            replace hcl := hcl.1
            have HTL := Lib.hid htl
            clear htl
            rcases hcl with h1 | ⟨h1, h2⟩ | ⟨h1, h2⟩ | h1
            all_goals
              (go_wp2
               go_meet
               exact ⟨by rw [HTL.out]; first | done | rfl | (simp; omega), rfl⟩)
        case rest =>
          obtain ⟨rfl, rfl⟩ := hcut
          cases htl : tail? s[k] with
          | true =>
            have hR2 : N = a + runFrom f (s.size - (k + 1)) (k + 1 - a) := by
              have := HS.out
              rw [if_pos (by rw [HF.out]; exact goes_tail hT.out htl)] at this
              rw [show k + 1 - a = k - a + 1 by omega]; exact this
            have hR2 := Lib.hid hR2
            clear htl HS hT
            go_wp2
            go_roundg (s.size - (k + 1))
            case measure => omega
            case rel => exact ⟨k + 1, rfl, by omega, by omega, by go_num, hB, hR2⟩
          | false =>
            by_cases hka : k = a
            · have hr : N = k := by
                have := HS.out
                rw [show k - a = 0 by omega, HF.out, goes_first (by rw [show 0 = k - a by omega]; exact hT.out) htl] at this
                simp at this
                omega
              have h9 : ¬ (a : Int) < (k : Int) := by omega
              have hr := Lib.hid hr
              clear HS hT htl hka
              go_wp2
              go_ret
              exact ⟨ret_int (by have := hr.out; omega), hB⟩
            · obtain ⟨p, rfl⟩ : ∃ p, k = p + 1 := ⟨k - 1, by omega⟩
              have ip : p < s.size := by omega
              have hT2 := drop_at s a p (by omega) ip
              have hg : f (p - a + 1) = _ := (congrFun HF.out (p - a + 1)).trans (goes_sign (by rw [show p - a + 1 = p + 1 - a by omega]; exact hT.out) hT2 htl)
              rw [show p - a + 1 = p + 1 - a by omega] at hg
              have e1 : ((p + 1 : Nat) : Int) - 1 = p := by omega
              have h9 : (a : Int) < ((p + 1 : Nat) : Int) := by omega
              have b43 := bytes_n s[p + 1] 43 43 rfl
              have b45 := bytes_n s[p + 1] 45 45 rfl
              obtain ⟨sg, hsg⟩ : ∃ sg, sg = (decide (s[p + 1] = 43) || decide (s[p + 1] = 45)) := ⟨_, rfl⟩
              rw [← hsg] at hg
              have HG := Lib.hid hg
              clear hT2 htl hT hg
              go_upto_region 9 with fail
              go_cut [99] from 50 to 133 (fun v wx => v = .bool sg ∧ wx = wc)
              case first =>
                have HSG := Lib.hid hsg
                clear hsg
                cases d1 : decide (s[p + 1] = 43) <;> cases d2 : decide (s[p + 1] = 45)
                all_goals
                  (rw [d1] at b43
                   rw [d2] at b45
                   have HD1 := Lib.hid d1
                   have HD2 := Lib.hid d2
                   clear d1 d2
                   go_wp2
                   go_meet
                   exact ⟨by rw [HSG.out, HD1.out, HD2.out]; rfl, rfl⟩)
              case rest =>
                obtain ⟨rfl, rfl⟩ := hcut
                clear b43 b45 hsg
                cases sg with
                | false =>
                  have hr : N = p + 1 := by
                    have := HS.out
                    rw [HG.out] at this
                    simp at this
                    omega
                  have hr := Lib.hid hr
                  clear HS HG
                  go_wp2
                  go_ret
                  exact ⟨ret_int (by have := hr.out; omega), hB⟩
                | true =>
                  have q1 := bytes_n s[p] 101 101 rfl
                  have q2 := bytes_n s[p] 69 69 rfl
                  have q3 := bytes_n s[p] 112 112 rfl
                  have q4 := bytes_n s[p] 80 80 rfl
                  obtain ⟨pw, hpw⟩ : ∃ pw, pw = power? hex s[p] := ⟨_, rfl⟩
                  have HG2 := Lib.hid (show f (p + 1 - a) = pw by rw [HG.out, hpw]; rfl)
                  have HPW := Lib.hid hpw
                  clear HG hpw
                  go_upto_region 10 with fail
                  go_cut [132] from 50 to 133 (fun v wx => v = .bool pw ∧ wx = wc)
                  case first =>
                    cases hex
                    · cases d1 : decide (s[p] = 101) <;> cases d2 : decide (s[p] = 69)
                      all_goals
                        (rw [d1] at q1
                         rw [d2] at q2
                         have HD1 := Lib.hid d1
                         have HD2 := Lib.hid d2
                         clear d1 d2 q3 q4
                         go_wp2
                         go_meet
                         exact ⟨by rw [HPW.out]; unfold power?; rw [HD1.out, HD2.out]; rfl, rfl⟩)
                    · cases d1 : decide (s[p] = 112) <;> cases d2 : decide (s[p] = 80)
                      all_goals
                        (rw [d1] at q3
                         rw [d2] at q4
                         have HD1 := Lib.hid d1
                         have HD2 := Lib.hid d2
                         clear d1 d2 q1 q2
                         go_wp2
                         go_meet
                         exact ⟨by rw [HPW.out]; unfold power?; rw [HD1.out, HD2.out]; rfl, rfl⟩)
                  case rest =>
                    obtain ⟨rfl, rfl⟩ := hcut
                    clear q1 q2 q3 q4 HPW
                    cases pw with
                    | false =>
                      have hr : N = p + 1 := by
                        have := HS.out
                        rw [HG2.out] at this
                        simp at this
                        omega
                      have hr := Lib.hid hr
                      clear HS HG2
                      go_wp2
                      go_ret
                      exact ⟨ret_int (by have := hr.out; omega), hB⟩
                    | true =>
                      have hR2 : N = a + runFrom f (s.size - (p + 1 + 1)) (p + 1 + 1 - a) := by
                        have := HS.out
                        rw [if_pos HG2.out] at this
                        rw [show p + 1 + 1 - a = p + 1 - a + 1 by omega]; exact this
                      have hR2 := Lib.hid hR2
                      clear HS HG2
                      go_wp2
                      go_roundg (s.size - (p + 1 + 1))
                      case measure => omega
                      case rel => exact ⟨p + 1 + 1, rfl, by omega, by omega, by go_num, hB, hR2⟩
      · have hr : N = s.size := by
          have := hR.out
          rw [show s.size - k = 0 by omega] at this
          unfold runFrom at this
          omega
        go_wp2
        go_ret
        exact ⟨ret_int (by omega), hB⟩
end Go.Proofs.Ytakbhbhikknhkaa
