/-
  Texts T U V X of an earlier seat, under this one's numbers.
-/
import Derived.Test.YtoffjpgobhcipaaDoorNc
import Derived.OwnWalk
set_option maxRecDepth 100000
/-
  Layer 5: contracts of number.plain and Kind.
-/
namespace Go.Proofs.YtoffjpgobhcipaaDoor.Num
open Go.ChangeShapes Go.WideShapes Go.ChangeAt Go.RowKit

/-- the kind of a number that isn't imaginary, as the program has it -/
def plainP (l : List UInt8) : Nat :=
  if head? 98 66 l then wholeP 2 (l.drop 2) else if head? 111 79 l then wholeP 8 (l.drop 2) else if head? 120 88 l then hexP (l.drop 2) else decP l

set_option maxHeartbeats 4000000 in
theorem plain_any (s : ByteArray) (hs : s.size ≤ 4611686018427387904) (w : World) :
    Calls Tryd.prog 69 #[.string s] w fun e w' => e = .returned (.int .u8 (plainP s.data.toList)) ∧ Below w.heap.size w w' := by
  have hlen : s.data.toList.length = s.size := by simp
  have hdec := decimal_any s hs
  obtain ⟨R, hR⟩ : ∃ R, R = plainP s.data.toList := ⟨_, rfl⟩
  obtain ⟨D, hD⟩ : ∃ D, D = decP s.data.toList := ⟨_, rfl⟩
  rw [← hR]
  rw [← hD] at hdec
  unfold plainP at hR
  rw [← hD] at hR
  by_cases h2 : s.size < 2
  · have hRz : R = D := by rw [hR, head_short _ _ _ (by omega), head_short _ _ _ (by omega), head_short _ _ _ (by omega)]; rfl
    subst hRz
    have d1 : (s.size : Int) < 2 := by omega
    clear hR hD hlen
    go_enter Tryd.func69, Tryd.ntmps69
    go_wp2_with (go_at_call 82; refine (hdec _).mono ?_; rintro e w1 ⟨rfl, hB⟩)
    go_ret
    exact ⟨rfl, hB⟩
  · have i0 : 0 < s.size := by omega
    have i1 : 1 < s.size := by omega
    have d1 : ¬ (s.size : Int) < 2 := by omega
    have d2 : (2 : Int) ≤ s.size := by omega
    have hh : ∀ a b, head? a b s.data.toList = (decide (s[0] = 48) && (decide (s[1] = a) || decide (s[1] = b))) := fun a b => by rw [two_of s i0 i1]; rfl
    rw [hh, hh, hh] at hR
    have b0 := bytes_n s[0] 48 48 rfl
    by_cases h48 : s[0] = 48
    · have c0 : ((s[0].toNat : Int) != 48) = false := by rw [bne, b0]; simpa using h48
      rw [decide_eq_true h48] at hR
      simp only [Bool.true_and] at hR
      have hz : (s.extract 2 s.size).size ≤ 4611686018427387904 := by simp; omega
      rw [← extract_drop] at hR
      have hw2 := whole_any _ hz 2
      have hw8 := whole_any _ hz 8
      have hsx := sixteen_any _ hz
      have q1 := bytes_n s[1] 98 98 rfl
      have q2 := bytes_n s[1] 66 66 rfl
      have q3 := bytes_n s[1] 111 111 rfl
      have q4 := bytes_n s[1] 79 79 rfl
      have q5 := bytes_n s[1] 120 120 rfl
      have q6 := bytes_n s[1] 88 88 rfl
      clear hh b0 h48 hlen hD
      by_cases e1 : s[1] = 98
      · have hRz : R = wholeP 2 (s.extract 2 s.size).data.toList := by rw [hR, e1]; rfl
        rw [← hRz] at hw2
        rw [decide_eq_true e1] at q1
        clear hR hRz hdec hw8 hsx q2 q3 q4 q5 q6 e1
        go_enter Tryd.func69, Tryd.ntmps69
        go_wp2_with (go_at_call 83; refine (hw2 _).mono ?_; rintro e w1 ⟨rfl, hB⟩)
        go_ret
        exact ⟨rfl, hB⟩
      rw [decide_eq_false e1] at hR q1
      clear e1
      by_cases e2 : s[1] = 66
      · have hRz : R = wholeP 2 (s.extract 2 s.size).data.toList := by rw [hR, e2]; rfl
        rw [← hRz] at hw2
        rw [decide_eq_true e2] at q2
        clear hR hRz hdec hw8 hsx q3 q4 q5 q6 e2
        go_enter Tryd.func69, Tryd.ntmps69
        go_wp2_with (go_at_call 83; refine (hw2 _).mono ?_; rintro e w1 ⟨rfl, hB⟩)
        go_ret
        exact ⟨rfl, hB⟩
      rw [decide_eq_false e2] at hR q2
      clear e2
      by_cases e3 : s[1] = 111
      · have hRz : R = wholeP 8 (s.extract 2 s.size).data.toList := by rw [hR, e3]; rfl
        rw [← hRz] at hw8
        rw [decide_eq_true e3] at q3
        clear hR hRz hdec hw2 hsx q4 q5 q6 e3
        go_enter Tryd.func69, Tryd.ntmps69
        go_wp2_with (go_at_call 83; refine (hw8 _).mono ?_; rintro e w1 ⟨rfl, hB⟩)
        go_ret
        exact ⟨rfl, hB⟩
      rw [decide_eq_false e3] at hR q3
      clear e3
      by_cases e4 : s[1] = 79
      · have hRz : R = wholeP 8 (s.extract 2 s.size).data.toList := by rw [hR, e4]; rfl
        rw [← hRz] at hw8
        rw [decide_eq_true e4] at q4
        clear hR hRz hdec hw2 hsx q5 q6 e4
        go_enter Tryd.func69, Tryd.ntmps69
        go_wp2_with (go_at_call 83; refine (hw8 _).mono ?_; rintro e w1 ⟨rfl, hB⟩)
        go_ret
        exact ⟨rfl, hB⟩
      rw [decide_eq_false e4] at hR q4
      clear e4
      by_cases e5 : s[1] = 120
      · have hRz : R = hexP (s.extract 2 s.size).data.toList := by rw [hR, e5]; rfl
        rw [← hRz] at hsx
        rw [decide_eq_true e5] at q5
        clear hR hRz hdec hw2 hw8 q6 e5
        go_enter Tryd.func69, Tryd.ntmps69
        go_wp2_with (go_at_call 84; refine (hsx _).mono ?_; rintro e w1 ⟨rfl, hB⟩)
        go_ret
        exact ⟨rfl, hB⟩
      rw [decide_eq_false e5] at hR q5
      clear e5
      by_cases e6 : s[1] = 88
      · have hRz : R = hexP (s.extract 2 s.size).data.toList := by rw [hR, e6]; rfl
        rw [← hRz] at hsx
        rw [decide_eq_true e6] at q6
        clear hR hRz hdec hw2 hw8  e6
        go_enter Tryd.func69, Tryd.ntmps69
        go_wp2_with (go_at_call 84; refine (hsx _).mono ?_; rintro e w1 ⟨rfl, hB⟩)
        go_ret
        exact ⟨rfl, hB⟩
      rw [decide_eq_false e6] at hR q6
      clear e6
      have hRz : R = D := hR
      subst hRz
      clear hR hw2 hw8 hsx
      go_enter Tryd.func69, Tryd.ntmps69
      go_wp2_with (go_at_call 82; refine (hdec _).mono ?_; rintro e w1 ⟨rfl, hB⟩)
      go_ret
      exact ⟨rfl, hB⟩
    · have c0 : ((s[0].toNat : Int) != 48) = true := by rw [bne, b0]; simpa using h48
      have hRz : R = D := by rw [hR, decide_eq_false h48]; rfl
      subst hRz
      clear hR hD hlen hh b0 h48
      go_enter Tryd.func69, Tryd.ntmps69
      go_wp2_with (go_at_call 82; refine (hdec _).mono ?_; rintro e w1 ⟨rfl, hB⟩)
      go_ret
      exact ⟨rfl, hB⟩

/-- a text's kind as the program has it -/
def kindP (l : List UInt8) : Nat :=
  if Lib.hasSuffix l [105] then (if plainP (Lib.trimSuffix l [105]) ≠ 0 ∨ isRow? 10 (Lib.trimSuffix l [105]) = true then 5 else 0) else plainP (Lib.trimSuffix l [105])
theorem trimS_short (l p : List UInt8) : (Lib.trimSuffix l p).length ≤ l.length := by
  unfold Lib.trimSuffix
  split
  · simp
  · exact Nat.le_refl _
set_option maxHeartbeats 2000000 in
theorem kind_any (s : ByteArray) (hs : s.size ≤ 4611686018427387904) (w : World) :
    Calls Tryd.prog 52 #[.string s] w fun e w' => e = .returned (.int .u8 (kindP s.data.toList)) ∧ Below w.heap.size w w' := by
  obtain ⟨t, ht⟩ : ∃ t : ByteArray, t = ⟨(Lib.trimSuffix s.data.toList [105]).toArray⟩ := ⟨_, rfl⟩
  have htl : t.data.toList = Lib.trimSuffix s.data.toList [105] := by rw [ht]
  have hts : t.size ≤ 4611686018427387904 := by
    have h1 : t.size = t.data.toList.length := by simp
    have h2 := trimS_short s.data.toList [105]
    have h3 : s.data.toList.length = s.size := by simp
    rw [h1, htl]; omega
  obtain ⟨im, him⟩ : ∃ v, v = Lib.hasSuffix s.data.toList [105] := ⟨_, rfl⟩
  have hc : ∀ w, Calls Tryd.prog 68 #[.string s, .string ⟨#[105]⟩] w fun e w' => e = .returned (.tuple #[.string t, .bool im]) ∧ w' = w := fun w => by
    have h := Tryd.strings_CutSuffix s ⟨#[105]⟩ w (by omega)
    rw [ht, him]; exact h
  have hp := plain_any t hts
  have hr := isRow_any t hts 10
  obtain ⟨K, hK⟩ : ∃ K, K = plainP t.data.toList := ⟨_, rfl⟩
  obtain ⟨v, hv⟩ : ∃ v, v = isRow? 10 t.data.toList := ⟨_, rfl⟩
  rw [← hK] at hp
  rw [← hv] at hr
  have hw : kindP s.data.toList = if im then (if K ≠ 0 ∨ v = true then 5 else 0) else K := by unfold kindP; rw [← htl, ← hK, ← hv, him]
  rw [hw]
  have hA : Below w.heap.size w w := Below.refl _ _
  clear hw hv htl ht hK him
  cases im with
  | false =>
    go_enter Tryd.func52, Tryd.ntmps52
    go_wp2_with (first
      | (go_at_call 68; refine (hc _).mono ?_; rintro e w1 ⟨rfl, hw⟩; rw [hw]; clear hw w1)
      | (go_at_call 69; refine (hp _).mono ?_; rintro e w1 ⟨rfl, hB⟩; replace hA := hA.trans (hB.mono hA.size); clear hB))
    go_ret
    exact ⟨rfl, hA⟩
  | true =>
    by_cases h0 : K = 0
    · subst h0
      cases v
      all_goals
        (go_enter Tryd.func52, Tryd.ntmps52
         go_wp2_with (first
          | (go_at_call 68; refine (hc _).mono ?_; rintro e w1 ⟨rfl, hw⟩; rw [hw]; clear hw w1)
          | (go_at_call 69; refine (hp _).mono ?_; rintro e w1 ⟨rfl, hB⟩; replace hA := hA.trans (hB.mono hA.size); clear hB)
          | (go_at_call 70; refine (hr _).mono ?_; rintro e w1 ⟨rfl, hB⟩; replace hA := hA.trans (hB.mono hA.size); clear hB))
         go_ret
         exact ⟨rfl, hA⟩)
    · have d1 : ((K : Int) != 0) = true := by rw [bne_iff_ne]; omega
      rw [if_pos rfl, if_pos (.inl h0)]
      clear h0
      go_enter Tryd.func52, Tryd.ntmps52
      go_wp2_with (first
        | (go_at_call 68; refine (hc _).mono ?_; rintro e w1 ⟨rfl, hw⟩; rw [hw]; clear hw w1)
        | (go_at_call 69; refine (hp _).mono ?_; rintro e w1 ⟨rfl, hB⟩; replace hA := hA.trans (hB.mono hA.size); clear hB))
      go_ret
      exact ⟨rfl, hA⟩
end Go.Proofs.YtoffjpgobhcipaaDoor.Num

/-
  Layer 5: contracts of number.begins, of the closure that tells a sign, of runEnd.
-/
namespace Go.Proofs.YtoffjpgobhcipaaDoor.Num
open Go.ChangeShapes Go.WideShapes Go.ChangeAt Go.RowKit

theorem dig_ten (c : UInt8) : dig 10 c = (decide (48 ≤ c.toNat) && decide (c.toNat ≤ 57)) := by
  unfold dig val
  rw [Bool.eq_iff_iff]
  simp
  split
  · omega
  · split
    · omega
    · split <;> omega
/-- does a sign at a place belong to a run that begins at a? -/
def signed? (pw l : List UInt8) (a i : Nat) : Bool :=
  match l[i]? with
  | none => false
  | some c => (decide (c = 43) || decide (c = 45)) && (decide (a < i) && (match l[i - 1]? with | none => false | some d => pw.contains d))
end Go.Proofs.YtoffjpgobhcipaaDoor.Num

/-
  Layer 5: contract of number.runEnd.
-/
namespace Go.Proofs.YtoffjpgobhcipaaDoor.Num
open Go.ChangeShapes Go.WideShapes Go.ChangeAt Go.RowKit

theorem has_two (a b : UInt8) (l : List UInt8) : Lib.hasPrefix l [a, b] = (decide (l[0]? = some a) && decide (l[1]? = some b)) := by
  match l with
  | [] => rfl
  | [c] =>
    rw [show ([c] : List UInt8)[1]? = none from rfl, Bool.eq_iff_iff]
    unfold Lib.hasPrefix
    rw [List.isPrefixOf_iff_prefix]
    simp
  | c :: d :: t =>
    rw [show (c :: d :: t)[0]? = some c from rfl, show (c :: d :: t)[1]? = some d from rfl, Bool.eq_iff_iff]
    unfold Lib.hasPrefix
    rw [List.isPrefixOf_iff_prefix, List.cons_prefix_cons, List.cons_prefix_cons]
    simp only [List.nil_prefix, and_true, Bool.and_eq_true, decide_eq_true_eq, Option.some.injEq]
    exact ⟨fun h => ⟨h.1.symm, h.2.symm⟩, fun h => ⟨h.1.symm, h.2.symm⟩⟩
theorem head_prefix (l : List UInt8) : head? 120 88 l = (Lib.hasPrefix l [48, 120] || Lib.hasPrefix l [48, 88]) := by
  rw [has_two, has_two]
  match l with
  | [] => rfl
  | [c] => simp [head?]
  | c :: d :: t =>
    simp [head?]
    rw [Bool.eq_iff_iff]
    simp
    constructor
    · rintro ⟨h, h1 | h1⟩
      · exact .inl ⟨h, h1⟩
      · exact .inr ⟨h, h1⟩
    · rintro (⟨h, h1⟩ | ⟨h, h1⟩)
      · exact ⟨h, .inl h1⟩
      · exact ⟨h, .inr h1⟩
def powersOf (hex : Bool) : ByteArray := if hex then ⟨#[112, 80]⟩ else ⟨#[101, 69]⟩
theorem powers_has (hex : Bool) (d : UInt8) : (powersOf hex).data.toList.contains d = power? hex d := by
  cases hex <;> simp [powersOf, power?] <;> rw [Bool.eq_iff_iff] <;> simp
theorem goes_eq (s : ByteArray) (hex : Bool) (a k : Nat) (h1 : a ≤ k) (h2 : k < s.size) :
    goesOn hex (s.data.toList.drop a) (k - a) = (tail? s[k] || signed? (powersOf hex).data.toList s.data.toList a k) := by
  have hT := drop_at s a k h1 h2
  unfold signed?
  rw [at_of s k h2]
  dsimp only
  by_cases hk : k = a
  · subst hk
    rw [Nat.sub_self] at hT ⊢
    simp only [goesOn, hT]
    simp
  · obtain ⟨p, rfl⟩ : ∃ p, k = p + 1 := ⟨k - 1, by omega⟩
    have hT2 := drop_at s a p (by omega) (by omega)
    rw [show p + 1 - a = (p - a) + 1 by omega] at hT ⊢
    simp only [goesOn, hT, hT2]
    rw [Nat.add_sub_cancel, at_of s p (by omega), decide_eq_true (show a < p + 1 by omega)]
    simp only [Bool.true_and, powers_has]

end Go.Proofs.YtoffjpgobhcipaaDoor.Num

/-
  Layer 5: contracts of number.Scan and of the document's Scan.
-/
namespace Go.Proofs.YtoffjpgobhcipaaDoor.Num
open Go.ChangeShapes Go.WideShapes Go.ChangeAt Go.RowKit

theorem runFrom_ge (f : Nat → Bool) : ∀ n i, i ≤ runFrom f n i
  | 0, i => Nat.le_refl _
  | n + 1, i => by
    unfold runFrom
    split
    · have := runFrom_ge f n (i + 1); omega
    · omega
theorem starts_tail {c : UInt8} {t : List UInt8} (h : starts (c :: t) = true) : tail? c = true := by
  unfold starts at h
  rw [Bool.or_eq_true] at h
  rcases h with h | h
  · exact dig_tail h
  · rw [Bool.and_eq_true, decide_eq_true_eq] at h
    rw [h.1]; decide
theorem runLen_pos {t : List UInt8} (h : starts t = true) : 0 < runLen t := by
  match t, h with
  | c :: t, h =>
    unfold runLen
    rw [List.length_cons]
    unfold runFrom
    rw [if_pos (goes_tail (j := 0) rfl (starts_tail h))]
    have := runFrom_ge (goesOn (head? 120 88 (c :: t)) (c :: t)) t.length (0 + 1)
    omega

/-- what is found at a place, by what a text's kind is -/
def scanOf (kf : List UInt8 → Nat) (l : List UInt8) (at' : Int) : Nat × Int × Int :=
  if (decide (0 ≤ at') && starts (l.drop at'.toNat)) = true then
    (if kf ((l.drop at'.toNat).take (runLen (l.drop at'.toNat))) = 0 then (0, 0, 4) else (kf ((l.drop at'.toNat).take (runLen (l.drop at'.toNat))), ((at'.toNat + runLen (l.drop at'.toNat) : Nat) : Int), 0))
  else (0, 0, 15)
theorem slice_run (s : ByteArray) (a n : Nat) : (s.extract a (a + n)).data.toList = (s.data.toList.drop a).take n := by
  rw [extract_take, Nat.add_sub_cancel_left]

end Go.Proofs.YtoffjpgobhcipaaDoor.Num
