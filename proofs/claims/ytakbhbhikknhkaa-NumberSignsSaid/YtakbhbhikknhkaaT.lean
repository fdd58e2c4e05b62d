/-
  Layer 5: contracts of number.plain and Kind.
-/
import Derived.Test.YtakbhbhikknhkaaS
namespace Go.Proofs.Ytakbhbhikknhkaa
open Go.ChangeShapes Go.WideShapes Go.ChangeAt Go.RowKit

/-- the kind of a number that isn't imaginary, as the program has it -/
def plainP (l : List UInt8) : Nat :=
  if head? 98 66 l then wholeP 2 (l.drop 2) else if head? 111 79 l then wholeP 8 (l.drop 2) else if head? 120 88 l then hexP (l.drop 2) else decP l

set_option maxHeartbeats 4000000 in
theorem plain_any (s : ByteArray) (hs : s.size ≤ 4611686018427387904) (w : World) :
    Calls Try.prog 16 #[.string s] w fun e w' => e = .returned (.int .u8 (plainP s.data.toList)) ∧ Below w.heap.size w w' := by
  have hlen : s.data.toList.length = s.size := by simp
  have hdec := decimal_any s hs
  obtain ⟨R, hR⟩ : ∃ R, R = plainP s.data.toList := ⟨_, rfl⟩
  obtain ⟨D, hD⟩ : ∃ D, D = decP s.data.toList := ⟨_, rfl⟩
  rw [← hR]
  rw [← hD] at hdec
  unfold plainP at hR
  rw [← hD] at hR
  by_cases h2 : s.size < 2
  · have hRz : R = D := by rw [hR, head_short _ _ _ (by omega), head_short _ _ _ (by omega), head_short _ _ _ (by omega)]; rfl
    subst hRz
    have d1 : (s.size : Int) < 2 := by omega
    clear hR hD hlen
    go_enter Try.func16, Try.ntmps16
    go_wp2_with (go_at_call 25; refine (hdec _).mono ?_; rintro e w1 ⟨rfl, hB⟩)
    go_ret
    exact ⟨rfl, hB⟩
  · have i0 : 0 < s.size := by omega
    have i1 : 1 < s.size := by omega
    have d1 : ¬ (s.size : Int) < 2 := by omega
    have d2 : (2 : Int) ≤ s.size := by omega
    have hh : ∀ a b, head? a b s.data.toList = (decide (s[0] = 48) && (decide (s[1] = a) || decide (s[1] = b))) := fun a b => by rw [two_of s i0 i1]; rfl
    rw [hh, hh, hh] at hR
    have b0 := bytes_n s[0] 48 48 rfl
    by_cases h48 : s[0] = 48
    · have c0 : ((s[0].toNat : Int) != 48) = false := by rw [bne, b0]; simpa using h48
      rw [decide_eq_true h48] at hR
      simp only [Bool.true_and] at hR
      have hz : (s.extract 2 s.size).size ≤ 4611686018427387904 := by simp; omega
      rw [← extract_drop] at hR
      have hw2 := whole_any _ hz 2
      have hw8 := whole_any _ hz 8
      have hsx := sixteen_any _ hz
      have q1 := bytes_n s[1] 98 98 rfl
      have q2 := bytes_n s[1] 66 66 rfl
      have q3 := bytes_n s[1] 111 111 rfl
      have q4 := bytes_n s[1] 79 79 rfl
      have q5 := bytes_n s[1] 120 120 rfl
      have q6 := bytes_n s[1] 88 88 rfl
      clear hh b0 h48 hlen hD
      by_cases e1 : s[1] = 98
      · have hRz : R = wholeP 2 (s.extract 2 s.size).data.toList := by rw [hR, e1]; rfl
        rw [← hRz] at hw2
        rw [decide_eq_true e1] at q1
        clear hR hRz hdec hw8 hsx q2 q3 q4 q5 q6 e1
        go_enter Try.func16, Try.ntmps16
        go_wp2_with (go_at_call 26; refine (hw2 _).mono ?_; rintro e w1 ⟨rfl, hB⟩)
        go_ret
        exact ⟨rfl, hB⟩
      rw [decide_eq_false e1] at hR q1
      clear e1
      by_cases e2 : s[1] = 66
      · have hRz : R = wholeP 2 (s.extract 2 s.size).data.toList := by rw [hR, e2]; rfl
        rw [← hRz] at hw2
        rw [decide_eq_true e2] at q2
        clear hR hRz hdec hw8 hsx q3 q4 q5 q6 e2
        go_enter Try.func16, Try.ntmps16
        go_wp2_with (go_at_call 26; refine (hw2 _).mono ?_; rintro e w1 ⟨rfl, hB⟩)
        go_ret
        exact ⟨rfl, hB⟩
      rw [decide_eq_false e2] at hR q2
      clear e2
      by_cases e3 : s[1] = 111
      · have hRz : R = wholeP 8 (s.extract 2 s.size).data.toList := by rw [hR, e3]; rfl
        rw [← hRz] at hw8
        rw [decide_eq_true e3] at q3
        clear hR hRz hdec hw2 hsx q4 q5 q6 e3
        go_enter Try.func16, Try.ntmps16
        go_wp2_with (go_at_call 26; refine (hw8 _).mono ?_; rintro e w1 ⟨rfl, hB⟩)
        go_ret
        exact ⟨rfl, hB⟩
      rw [decide_eq_false e3] at hR q3
      clear e3
      by_cases e4 : s[1] = 79
      · have hRz : R = wholeP 8 (s.extract 2 s.size).data.toList := by rw [hR, e4]; rfl
        rw [← hRz] at hw8
        rw [decide_eq_true e4] at q4
        clear hR hRz hdec hw2 hsx q5 q6 e4
        go_enter Try.func16, Try.ntmps16
        go_wp2_with (go_at_call 26; refine (hw8 _).mono ?_; rintro e w1 ⟨rfl, hB⟩)
        go_ret
        exact ⟨rfl, hB⟩
      rw [decide_eq_false e4] at hR q4
      clear e4
      by_cases e5 : s[1] = 120
      · have hRz : R = hexP (s.extract 2 s.size).data.toList := by rw [hR, e5]; rfl
        rw [← hRz] at hsx
        rw [decide_eq_true e5] at q5
        clear hR hRz hdec hw2 hw8 q6 e5
        go_enter Try.func16, Try.ntmps16
        go_wp2_with (go_at_call 27; refine (hsx _).mono ?_; rintro e w1 ⟨rfl, hB⟩)
        go_ret
        exact ⟨rfl, hB⟩
      rw [decide_eq_false e5] at hR q5
      clear e5
      by_cases e6 : s[1] = 88
      · have hRz : R = hexP (s.extract 2 s.size).data.toList := by rw [hR, e6]; rfl
        rw [← hRz] at hsx
        rw [decide_eq_true e6] at q6
        clear hR hRz hdec hw2 hw8  e6
        go_enter Try.func16, Try.ntmps16
        go_wp2_with (go_at_call 27; refine (hsx _).mono ?_; rintro e w1 ⟨rfl, hB⟩)
        go_ret
        exact ⟨rfl, hB⟩
      rw [decide_eq_false e6] at hR q6
      clear e6
      have hRz : R = D := hR
      subst hRz
      clear hR hw2 hw8 hsx
      go_enter Try.func16, Try.ntmps16
      go_wp2_with (go_at_call 25; refine (hdec _).mono ?_; rintro e w1 ⟨rfl, hB⟩)
      go_ret
      exact ⟨rfl, hB⟩
    · have c0 : ((s[0].toNat : Int) != 48) = true := by rw [bne, b0]; simpa using h48
      have hRz : R = D := by rw [hR, decide_eq_false h48]; rfl
      subst hRz
      clear hR hD hlen hh b0 h48
      go_enter Try.func16, Try.ntmps16
      go_wp2_with (go_at_call 25; refine (hdec _).mono ?_; rintro e w1 ⟨rfl, hB⟩)
      go_ret
      exact ⟨rfl, hB⟩

/-- a text's kind as the program has it -/
def kindP (l : List UInt8) : Nat :=
  if Lib.hasSuffix l [105] then (if plainP (Lib.trimSuffix l [105]) ≠ 0 ∨ isRow? 10 (Lib.trimSuffix l [105]) = true then 5 else 0) else plainP (Lib.trimSuffix l [105])
theorem trimS_short (l p : List UInt8) : (Lib.trimSuffix l p).length ≤ l.length := by
  unfold Lib.trimSuffix
  split
  · simp
  · exact Nat.le_refl _
set_option maxHeartbeats 2000000 in
theorem kind_any (s : ByteArray) (hs : s.size ≤ 4611686018427387904) (w : World) :
    Calls Try.prog 10 #[.string s] w fun e w' => e = .returned (.int .u8 (kindP s.data.toList)) ∧ Below w.heap.size w w' := by
  obtain ⟨t, ht⟩ : ∃ t : ByteArray, t = ⟨(Lib.trimSuffix s.data.toList [105]).toArray⟩ := ⟨_, rfl⟩
  have htl : t.data.toList = Lib.trimSuffix s.data.toList [105] := by rw [ht]
  have hts : t.size ≤ 4611686018427387904 := by
    have h1 : t.size = t.data.toList.length := by simp
    have h2 := trimS_short s.data.toList [105]
    have h3 : s.data.toList.length = s.size := by simp
    rw [h1, htl]; omega
  obtain ⟨im, him⟩ : ∃ v, v = Lib.hasSuffix s.data.toList [105] := ⟨_, rfl⟩
  have hc : ∀ w, Calls Try.prog 15 #[.string s, .string ⟨#[105]⟩] w fun e w' => e = .returned (.tuple #[.string t, .bool im]) ∧ w' = w := fun w => by
    have h := Try.strings_CutSuffix s ⟨#[105]⟩ w (by omega)
    rw [ht, him]; exact h
  have hp := plain_any t hts
  have hr := isRow_any t hts 10
  obtain ⟨K, hK⟩ : ∃ K, K = plainP t.data.toList := ⟨_, rfl⟩
  obtain ⟨v, hv⟩ : ∃ v, v = isRow? 10 t.data.toList := ⟨_, rfl⟩
  rw [← hK] at hp
  rw [← hv] at hr
  have hw : kindP s.data.toList = if im then (if K ≠ 0 ∨ v = true then 5 else 0) else K := by unfold kindP; rw [← htl, ← hK, ← hv, him]
  rw [hw]
  have hA : Below w.heap.size w w := Below.refl _ _
  clear hw hv htl ht hK him
  cases im with
  | false =>
    go_enter Try.func10, Try.ntmps10
    go_wp2_with (first
      | (go_at_call 15; refine (hc _).mono ?_; rintro e w1 ⟨rfl, hw⟩; rw [hw]; clear hw w1)
      | (go_at_call 16; refine (hp _).mono ?_; rintro e w1 ⟨rfl, hB⟩; replace hA := hA.trans (hB.mono hA.size); clear hB))
    go_ret
    exact ⟨rfl, hA⟩
  | true =>
    by_cases h0 : K = 0
    · subst h0
      cases v
      all_goals
        (go_enter Try.func10, Try.ntmps10
         go_wp2_with (first
          | (go_at_call 15; refine (hc _).mono ?_; rintro e w1 ⟨rfl, hw⟩; rw [hw]; clear hw w1)
          | (go_at_call 16; refine (hp _).mono ?_; rintro e w1 ⟨rfl, hB⟩; replace hA := hA.trans (hB.mono hA.size); clear hB)
          | (go_at_call 17; refine (hr _).mono ?_; rintro e w1 ⟨rfl, hB⟩; replace hA := hA.trans (hB.mono hA.size); clear hB))
         go_ret
         exact ⟨rfl, hA⟩)
    · have d1 : ((K : Int) != 0) = true := by rw [bne_iff_ne]; omega
      rw [if_pos rfl, if_pos (.inl h0)]
      clear h0
      go_enter Try.func10, Try.ntmps10
      go_wp2_with (first
        | (go_at_call 15; refine (hc _).mono ?_; rintro e w1 ⟨rfl, hw⟩; rw [hw]; clear hw w1)
        | (go_at_call 16; refine (hp _).mono ?_; rintro e w1 ⟨rfl, hB⟩; replace hA := hA.trans (hB.mono hA.size); clear hB))
      go_ret
      exact ⟨rfl, hA⟩
end Go.Proofs.Ytakbhbhikknhkaa
