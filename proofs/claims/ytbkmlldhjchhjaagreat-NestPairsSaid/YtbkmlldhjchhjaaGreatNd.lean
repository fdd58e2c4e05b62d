/-
  Texts T U V X of an earlier seat, under this one's numbers.
-/
import Derived.Test.YtbkmlldhjchhjaaGreatNc
import Derived.OwnWalk
set_option maxRecDepth 100000
/-
  Layer 5: contracts of number.plain and Kind.
-/
namespace Go.Proofs.YtbkmlldhjchhjaaGreat.Num
open Go.ChangeShapes Go.WideShapes Go.ChangeAt Go.RowKit

/-- the kind of a number that isn't imaginary, as the program has it -/
def plainP (l : List UInt8) : Nat :=
  if head? 98 66 l then wholeP 2 (l.drop 2) else if head? 111 79 l then wholeP 8 (l.drop 2) else if head? 120 88 l then hexP (l.drop 2) else decP l

set_option maxHeartbeats 4000000 in
theorem plain_any (s : ByteArray) (hs : s.size ≤ 4611686018427387904) (w : World) :
    Calls Tryz.prog 93 #[.string s] w fun e w' => e = .returned (.int .u8 (plainP s.data.toList)) ∧ Below w.heap.size w w' := by
  have hlen : s.data.toList.length = s.size := by simp
  have hdec := decimal_any s hs
  obtain ⟨R, hR⟩ : ∃ R, R = plainP s.data.toList := ⟨_, rfl⟩
  obtain ⟨D, hD⟩ : ∃ D, D = decP s.data.toList := ⟨_, rfl⟩
  rw [← hR]
  rw [← hD] at hdec
  unfold plainP at hR
  rw [← hD] at hR
  by_cases h2 : s.size < 2
  · have hRz : R = D := by rw [hR, head_short _ _ _ (by omega), head_short _ _ _ (by omega), head_short _ _ _ (by omega)]; rfl
    subst hRz
    have d1 : (s.size : Int) < 2 := by omega
    clear hR hD hlen
    go_enter Tryz.func93, Tryz.ntmps93
    go_wp2_with (go_at_call 104; refine (hdec _).mono ?_; rintro e w1 ⟨rfl, hB⟩)
    go_ret
    exact ⟨rfl, hB⟩
  · have i0 : 0 < s.size := by omega
    have i1 : 1 < s.size := by omega
    have d1 : ¬ (s.size : Int) < 2 := by omega
    have d2 : (2 : Int) ≤ s.size := by omega
    have hh : ∀ a b, head? a b s.data.toList = (decide (s[0] = 48) && (decide (s[1] = a) || decide (s[1] = b))) := fun a b => by rw [two_of s i0 i1]; rfl
    rw [hh, hh, hh] at hR
    have b0 := bytes_n s[0] 48 48 rfl
    by_cases h48 : s[0] = 48
    · have c0 : ((s[0].toNat : Int) != 48) = false := by rw [bne, b0]; simpa using h48
      rw [decide_eq_true h48] at hR
      simp only [Bool.true_and] at hR
      have hz : (s.extract 2 s.size).size ≤ 4611686018427387904 := by simp; omega
      rw [← extract_drop] at hR
      have hw2 := whole_any _ hz 2
      have hw8 := whole_any _ hz 8
      have hsx := sixteen_any _ hz
      have q1 := bytes_n s[1] 98 98 rfl
      have q2 := bytes_n s[1] 66 66 rfl
      have q3 := bytes_n s[1] 111 111 rfl
      have q4 := bytes_n s[1] 79 79 rfl
      have q5 := bytes_n s[1] 120 120 rfl
      have q6 := bytes_n s[1] 88 88 rfl
      clear hh b0 h48 hlen hD
      by_cases e1 : s[1] = 98
      · have hRz : R = wholeP 2 (s.extract 2 s.size).data.toList := by rw [hR, e1]; rfl
        rw [← hRz] at hw2
        rw [decide_eq_true e1] at q1
        clear hR hRz hdec hw8 hsx q2 q3 q4 q5 q6 e1
        go_enter Tryz.func93, Tryz.ntmps93
        go_wp2_with (go_at_call 105; refine (hw2 _).mono ?_; rintro e w1 ⟨rfl, hB⟩)
        go_ret
        exact ⟨rfl, hB⟩
      rw [decide_eq_false e1] at hR q1
      clear e1
      by_cases e2 : s[1] = 66
      · have hRz : R = wholeP 2 (s.extract 2 s.size).data.toList := by rw [hR, e2]; rfl
        rw [← hRz] at hw2
        rw [decide_eq_true e2] at q2
        clear hR hRz hdec hw8 hsx q3 q4 q5 q6 e2
        go_enter Tryz.func93, Tryz.ntmps93
        go_wp2_with (go_at_call 105; refine (hw2 _).mono ?_; rintro e w1 ⟨rfl, hB⟩)
        go_ret
        exact ⟨rfl, hB⟩
      rw [decide_eq_false e2] at hR q2
      clear e2
      by_cases e3 : s[1] = 111
      · have hRz : R = wholeP 8 (s.extract 2 s.size).data.toList := by rw [hR, e3]; rfl
        rw [← hRz] at hw8
        rw [decide_eq_true e3] at q3
        clear hR hRz hdec hw2 hsx q4 q5 q6 e3
        go_enter Tryz.func93, Tryz.ntmps93
        go_wp2_with (go_at_call 105; refine (hw8 _).mono ?_; rintro e w1 ⟨rfl, hB⟩)
        go_ret
        exact ⟨rfl, hB⟩
      rw [decide_eq_false e3] at hR q3
      clear e3
      by_cases e4 : s[1] = 79
      · have hRz : R = wholeP 8 (s.extract 2 s.size).data.toList := by rw [hR, e4]; rfl
        rw [← hRz] at hw8
        rw [decide_eq_true e4] at q4
        clear hR hRz hdec hw2 hsx q5 q6 e4
        go_enter Tryz.func93, Tryz.ntmps93
        go_wp2_with (go_at_call 105; refine (hw8 _).mono ?_; rintro e w1 ⟨rfl, hB⟩)
        go_ret
        exact ⟨rfl, hB⟩
      rw [decide_eq_false e4] at hR q4
      clear e4
      by_cases e5 : s[1] = 120
      · have hRz : R = hexP (s.extract 2 s.size).data.toList := by rw [hR, e5]; rfl
        rw [← hRz] at hsx
        rw [decide_eq_true e5] at q5
        clear hR hRz hdec hw2 hw8 q6 e5
        go_enter Tryz.func93, Tryz.ntmps93
        go_wp2_with (go_at_call 106; refine (hsx _).mono ?_; rintro e w1 ⟨rfl, hB⟩)
        go_ret
        exact ⟨rfl, hB⟩
      rw [decide_eq_false e5] at hR q5
      clear e5
      by_cases e6 : s[1] = 88
      · have hRz : R = hexP (s.extract 2 s.size).data.toList := by rw [hR, e6]; rfl
        rw [← hRz] at hsx
        rw [decide_eq_true e6] at q6
        clear hR hRz hdec hw2 hw8  e6
        go_enter Tryz.func93, Tryz.ntmps93
        go_wp2_with (go_at_call 106; refine (hsx _).mono ?_; rintro e w1 ⟨rfl, hB⟩)
        go_ret
        exact ⟨rfl, hB⟩
      rw [decide_eq_false e6] at hR q6
      clear e6
      have hRz : R = D := hR
      subst hRz
      clear hR hw2 hw8 hsx
      go_enter Tryz.func93, Tryz.ntmps93
      go_wp2_with (go_at_call 104; refine (hdec _).mono ?_; rintro e w1 ⟨rfl, hB⟩)
      go_ret
      exact ⟨rfl, hB⟩
    · have c0 : ((s[0].toNat : Int) != 48) = true := by rw [bne, b0]; simpa using h48
      have hRz : R = D := by rw [hR, decide_eq_false h48]; rfl
      subst hRz
      clear hR hD hlen hh b0 h48
      go_enter Tryz.func93, Tryz.ntmps93
      go_wp2_with (go_at_call 104; refine (hdec _).mono ?_; rintro e w1 ⟨rfl, hB⟩)
      go_ret
      exact ⟨rfl, hB⟩

/-- a text's kind as the program has it -/
def kindP (l : List UInt8) : Nat :=
  if Lib.hasSuffix l [105] then (if plainP (Lib.trimSuffix l [105]) ≠ 0 ∨ isRow? 10 (Lib.trimSuffix l [105]) = true then 5 else 0) else plainP (Lib.trimSuffix l [105])
theorem trimS_short (l p : List UInt8) : (Lib.trimSuffix l p).length ≤ l.length := by
  unfold Lib.trimSuffix
  split
  · simp
  · exact Nat.le_refl _
set_option maxHeartbeats 2000000 in
theorem kind_any (s : ByteArray) (hs : s.size ≤ 4611686018427387904) (w : World) :
    Calls Tryz.prog 76 #[.string s] w fun e w' => e = .returned (.int .u8 (kindP s.data.toList)) ∧ Below w.heap.size w w' := by
  obtain ⟨t, ht⟩ : ∃ t : ByteArray, t = ⟨(Lib.trimSuffix s.data.toList [105]).toArray⟩ := ⟨_, rfl⟩
  have htl : t.data.toList = Lib.trimSuffix s.data.toList [105] := by rw [ht]
  have hts : t.size ≤ 4611686018427387904 := by
    have h1 : t.size = t.data.toList.length := by simp
    have h2 := trimS_short s.data.toList [105]
    have h3 : s.data.toList.length = s.size := by simp
    rw [h1, htl]; omega
  obtain ⟨im, him⟩ : ∃ v, v = Lib.hasSuffix s.data.toList [105] := ⟨_, rfl⟩
  have hc : ∀ w, Calls Tryz.prog 92 #[.string s, .string ⟨#[105]⟩] w fun e w' => e = .returned (.tuple #[.string t, .bool im]) ∧ w' = w := fun w => by
    have h := Tryz.strings_CutSuffix s ⟨#[105]⟩ w (by omega)
    rw [ht, him]; exact h
  have hp := plain_any t hts
  have hr := isRow_any t hts 10
  obtain ⟨K, hK⟩ : ∃ K, K = plainP t.data.toList := ⟨_, rfl⟩
  obtain ⟨v, hv⟩ : ∃ v, v = isRow? 10 t.data.toList := ⟨_, rfl⟩
  rw [← hK] at hp
  rw [← hv] at hr
  have hw : kindP s.data.toList = if im then (if K ≠ 0 ∨ v = true then 5 else 0) else K := by unfold kindP; rw [← htl, ← hK, ← hv, him]
  rw [hw]
  have hA : Below w.heap.size w w := Below.refl _ _
  clear hw hv htl ht hK him
  cases im with
  | false =>
    go_enter Tryz.func76, Tryz.ntmps76
    go_wp2_with (first
      | (go_at_call 92; refine (hc _).mono ?_; rintro e w1 ⟨rfl, hw⟩; rw [hw]; clear hw w1)
      | (go_at_call 93; refine (hp _).mono ?_; rintro e w1 ⟨rfl, hB⟩; replace hA := hA.trans (hB.mono hA.size); clear hB))
    go_ret
    exact ⟨rfl, hA⟩
  | true =>
    by_cases h0 : K = 0
    · subst h0
      cases v
      all_goals
        (go_enter Tryz.func76, Tryz.ntmps76
         go_wp2_with (first
          | (go_at_call 92; refine (hc _).mono ?_; rintro e w1 ⟨rfl, hw⟩; rw [hw]; clear hw w1)
          | (go_at_call 93; refine (hp _).mono ?_; rintro e w1 ⟨rfl, hB⟩; replace hA := hA.trans (hB.mono hA.size); clear hB)
          | (go_at_call 94; refine (hr _).mono ?_; rintro e w1 ⟨rfl, hB⟩; replace hA := hA.trans (hB.mono hA.size); clear hB))
         go_ret
         exact ⟨rfl, hA⟩)
    · have d1 : ((K : Int) != 0) = true := by rw [bne_iff_ne]; omega
      rw [if_pos rfl, if_pos (.inl h0)]
      clear h0
      go_enter Tryz.func76, Tryz.ntmps76
      go_wp2_with (first
        | (go_at_call 92; refine (hc _).mono ?_; rintro e w1 ⟨rfl, hw⟩; rw [hw]; clear hw w1)
        | (go_at_call 93; refine (hp _).mono ?_; rintro e w1 ⟨rfl, hB⟩; replace hA := hA.trans (hB.mono hA.size); clear hB))
      go_ret
      exact ⟨rfl, hA⟩
end Go.Proofs.YtbkmlldhjchhjaaGreat.Num

/-
  Layer 5: contracts of number.begins, of the closure that tells a sign, of runEnd.
-/
namespace Go.Proofs.YtbkmlldhjchhjaaGreat.Num
open Go.ChangeShapes Go.WideShapes Go.ChangeAt Go.RowKit

theorem dig_ten (c : UInt8) : dig 10 c = (decide (48 ≤ c.toNat) && decide (c.toNat ≤ 57)) := by
  unfold dig val
  rw [Bool.eq_iff_iff]
  simp
  split
  · omega
  · split
    · omega
    · split <;> omega
set_option maxHeartbeats 2000000 in
theorem begins_any (s : ByteArray) (hs : s.size ≤ 4611686018427387904) (at' : Int) (w : World) :
    Calls Tryz.prog 74 #[.string s, .int .i64 at'] w fun e w' => e = .returned (.bool (decide (0 ≤ at') && starts (s.data.toList.drop at'.toNat))) ∧ w' = w := by
  by_cases h0 : at' < 0
  · rw [decide_eq_false (by omega), Bool.false_and]
    go_enter Tryz.func74, Tryz.ntmps74
    go_wp2
    go_ret
    exact ⟨rfl, rfl⟩
  · obtain ⟨a, rfl⟩ : ∃ a : Nat, at' = (a : Int) := ⟨at'.toNat, by omega⟩
    rw [decide_eq_true (by omega), Bool.true_and, show ((a : Int)).toNat = a by omega]
    by_cases h3 : (s.size : Int) ≤ a
    · rw [List.drop_eq_nil_of_le (by simp; omega)]
      go_enter Tryz.func74, Tryz.ntmps74
      go_wp2
      go_ret
      exact ⟨rfl, rfl⟩
    · have ia : a < s.size := by omega
      rw [starts_at s a ia]
      have b0 := bytes_n s[a] 46 46 rfl
      by_cases h46 : s[a] = 46
      · have c0 : ((s[a].toNat : Int) == 46) = true := by rw [b0]; simpa using h46
        rw [h46, show dig 10 46 = false by decide]
        simp only [decide_true, Bool.false_or, Bool.true_and]
        by_cases h4 : a + 1 < s.size
        · rw [dif_pos h4, dig_ten]
          have d1 : (a : Int) + 1 < s.size := by omega
          clear h46 b0
          go_enter Tryz.func74, Tryz.ntmps74
          go_wp2
          all_goals
            go_ret
            exact ⟨ret_bool (by rw [Bool.eq_iff_iff]; simp; omega), rfl⟩
        · rw [dif_neg h4]
          have d1 : ¬ (a : Int) + 1 < s.size := by omega
          clear h46 b0
          go_enter Tryz.func74, Tryz.ntmps74
          go_wp2
          go_ret
          exact ⟨rfl, rfl⟩
      · have c0 : ((s[a].toNat : Int) == 46) = false := by rw [b0]; simpa using h46
        rw [decide_eq_false h46, Bool.false_and, Bool.or_false, dig_ten]
        have d1 : (a : Int) < s.size := by omega
        clear h46 b0
        go_enter Tryz.func74, Tryz.ntmps74
        go_wp2
        all_goals
          go_ret
          exact ⟨ret_bool (by rw [Bool.eq_iff_iff]; simp; omega), rfl⟩

/-- does a sign at a place belong to a run that begins at a? -/
def signed? (pw l : List UInt8) (a i : Nat) : Bool :=
  match l[i]? with
  | none => false
  | some c => (decide (c = 43) || decide (c = 45)) && (decide (a < i) && (match l[i - 1]? with | none => false | some d => pw.contains d))
set_option maxHeartbeats 4000000 in
theorem signed_c (s pw : ByteArray) (hs : s.size ≤ 4611686018427387904) (a i q r p : Nat) (hi : i < s.size) (w : World) (hq : w.cell? ⟨q, 0, none⟩ = some (.string s)) (hr : w.cell? ⟨r, 0, none⟩ = some (.int .i64 a)) (hp : w.cell? ⟨p, 0, none⟩ = some (.string pw)) :
    Calls Tryz.prog 90 #[.int .i64 i, .pointer (some ⟨q, 0, none⟩), .pointer (some ⟨r, 0, none⟩), .pointer (some ⟨p, 0, none⟩)] w fun e w' => e = .returned (.bool (signed? pw.data.toList s.data.toList a i)) ∧ ∃ n, w' = w.drewN n := by
  have hx := at_of s i hi
  obtain ⟨v, hv⟩ : ∃ v, v = signed? pw.data.toList s.data.toList a i := ⟨_, rfl⟩
  rw [← hv]
  unfold signed? at hv
  rw [hx] at hv
  dsimp only at hv
  have b1 := bytes_n s[i] 43 43 rfl
  have b2 := bytes_n s[i] 45 45 rfl
  have d0 : (0 : Int) ≤ i := by omega
  have d1 : (i : Int) < s.size := by omega
  clear hx
  by_cases hsg : (decide (s[i] = 43) || decide (s[i] = 45)) = true
  · rw [hsg, Bool.true_and] at hv
    by_cases hai : a < i
    · obtain ⟨j, hj⟩ : ∃ j, i = j + 1 := ⟨i - 1, by omega⟩
      have ij : j < s.size := by omega
      rw [decide_eq_true hai, Bool.true_and, show i - 1 = j by omega, at_of s j ij] at hv
      dsimp only at hv
      have hI := indexByte_has s[j] pw.data.toList
      rw [← hv] at hI
      have hix := fun (n : Nat) => Tryz.strings_IndexByte pw (s[j].toNat : Int) (w.drewN n)
      simp only [show ((s[j].toNat : Int)).toNat.toUInt8 = s[j] by simp] at hix
      obtain ⟨I, hII⟩ : ∃ I, I = Lib.indexByte pw.data.toList s[j] := ⟨_, rfl⟩
      rw [← hII] at hI
      simp only [← hII] at hix
      have w1 : IntKind.i64.wrap ((i : Int) - 1) = (j : Int) := by rw [IntKind.wrap_i64]; omega
      have d2 : (0 : Int) ≤ j := by omega
      have d3 : (j : Int) < s.size := by omega
      have d5 : decide (a < i) = true := decide_eq_true hai
      have d6 : decide (0 ≤ I) = v := by
        cases v with
        | true => have := of_decide_eq_false hI; exact decide_eq_true (by omega)
        | false => have := of_decide_eq_true hI; exact decide_eq_false (by omega)
      clear hv hI hII hai hj
      by_cases h43 : s[i] = 43
      · rw [decide_eq_true h43] at b1
        clear b2 hsg h43
        go_enter Tryz.func90, Tryz.ntmps90
        go_upto_region 1 with fail
        go_quiet ((go_at_call 18; refine (hix _).mono ?_; rintro e w' ⟨rfl, rfl⟩; exact ⟨rfl, _, rfl⟩))
        go_wp2
        go_ret
        exact ⟨ret_bool (by first | rfl | exact d6), _, rfl⟩
      · rw [decide_eq_false h43] at b1
        have h45 : s[i] = 45 := by simpa [h43] using hsg
        rw [decide_eq_true h45] at b2
        clear hsg h43 h45
        go_enter Tryz.func90, Tryz.ntmps90
        go_upto_region 1 with fail
        go_quiet ((go_at_call 18; refine (hix _).mono ?_; rintro e w' ⟨rfl, rfl⟩; exact ⟨rfl, _, rfl⟩))
        go_wp2
        go_ret
        exact ⟨ret_bool (by first | rfl | exact d6), _, rfl⟩
    · rw [decide_eq_false hai, Bool.false_and] at hv
      subst hv
      have d5 : decide (a < i) = false := decide_eq_false (by omega)
      by_cases h43 : s[i] = 43
      · rw [decide_eq_true h43] at b1
        clear b2 hsg h43 hai
        go_enter Tryz.func90, Tryz.ntmps90
        go_upto_region 1 with fail
        go_quiet (fail)
        go_wp2
        go_ret
        exact ⟨rfl, _, rfl⟩
      · rw [decide_eq_false h43] at b1
        have h45 : s[i] = 45 := by simpa [h43] using hsg
        rw [decide_eq_true h45] at b2
        clear hsg h43 h45 hai
        go_enter Tryz.func90, Tryz.ntmps90
        go_upto_region 1 with fail
        go_quiet (fail)
        go_wp2
        go_ret
        exact ⟨rfl, _, rfl⟩
  · have hsf : (decide (s[i] = 43) || decide (s[i] = 45)) = false := by simpa using hsg
    rw [hsf, Bool.false_and] at hv
    subst hv
    rw [Bool.or_eq_false_iff] at hsf
    rw [hsf.1] at b1
    rw [hsf.2] at b2
    clear hsg hsf
    go_enter Tryz.func90, Tryz.ntmps90
    go_upto_region 1 with fail
    go_quiet (fail)
    go_wp2
    go_ret
    exact ⟨rfl, _, rfl⟩
end Go.Proofs.YtbkmlldhjchhjaaGreat.Num

/-
  Layer 5: contract of number.runEnd.
-/
namespace Go.Proofs.YtbkmlldhjchhjaaGreat.Num
open Go.ChangeShapes Go.WideShapes Go.ChangeAt Go.RowKit

theorem has_two (a b : UInt8) (l : List UInt8) : Lib.hasPrefix l [a, b] = (decide (l[0]? = some a) && decide (l[1]? = some b)) := by
  match l with
  | [] => rfl
  | [c] =>
    rw [show ([c] : List UInt8)[1]? = none from rfl, Bool.eq_iff_iff]
    unfold Lib.hasPrefix
    rw [List.isPrefixOf_iff_prefix]
    simp
  | c :: d :: t =>
    rw [show (c :: d :: t)[0]? = some c from rfl, show (c :: d :: t)[1]? = some d from rfl, Bool.eq_iff_iff]
    unfold Lib.hasPrefix
    rw [List.isPrefixOf_iff_prefix, List.cons_prefix_cons, List.cons_prefix_cons]
    simp only [List.nil_prefix, and_true, Bool.and_eq_true, decide_eq_true_eq, Option.some.injEq]
    exact ⟨fun h => ⟨h.1.symm, h.2.symm⟩, fun h => ⟨h.1.symm, h.2.symm⟩⟩
theorem head_prefix (l : List UInt8) : head? 120 88 l = (Lib.hasPrefix l [48, 120] || Lib.hasPrefix l [48, 88]) := by
  rw [has_two, has_two]
  match l with
  | [] => rfl
  | [c] => simp [head?]
  | c :: d :: t =>
    simp [head?]
    rw [Bool.eq_iff_iff]
    simp
    constructor
    · rintro ⟨h, h1 | h1⟩
      · exact .inl ⟨h, h1⟩
      · exact .inr ⟨h, h1⟩
    · rintro (⟨h, h1⟩ | ⟨h, h1⟩)
      · exact ⟨h, .inl h1⟩
      · exact ⟨h, .inr h1⟩
def powersOf (hex : Bool) : ByteArray := if hex then ⟨#[112, 80]⟩ else ⟨#[101, 69]⟩
theorem powers_has (hex : Bool) (d : UInt8) : (powersOf hex).data.toList.contains d = power? hex d := by
  cases hex <;> simp [powersOf, power?] <;> rw [Bool.eq_iff_iff] <;> simp
theorem goes_eq (s : ByteArray) (hex : Bool) (a k : Nat) (h1 : a ≤ k) (h2 : k < s.size) :
    goesOn hex (s.data.toList.drop a) (k - a) = (tail? s[k] || signed? (powersOf hex).data.toList s.data.toList a k) := by
  have hT := drop_at s a k h1 h2
  unfold signed?
  rw [at_of s k h2]
  dsimp only
  by_cases hk : k = a
  · subst hk
    rw [Nat.sub_self] at hT ⊢
    simp only [goesOn, hT]
    simp
  · obtain ⟨p, rfl⟩ : ∃ p, k = p + 1 := ⟨k - 1, by omega⟩
    have hT2 := drop_at s a p (by omega) (by omega)
    rw [show p + 1 - a = (p - a) + 1 by omega] at hT ⊢
    simp only [goesOn, hT, hT2]
    rw [Nat.add_sub_cancel, at_of s p (by omega), decide_eq_true (show a < p + 1 by omega)]
    simp only [Bool.true_and, powers_has]

set_option maxHeartbeats 4000000 in
theorem runEnd_any (s : ByteArray) (hs : s.size ≤ 4611686018427387904) (a : Nat) (ia : a ≤ s.size) (w : World) :
    Calls Tryz.prog 75 #[.string s, .int .i64 a] w fun e w' => e = .returned (.int .i64 ((a + runLen (s.data.toList.drop a) : Nat) : Int)) ∧ Below w.heap.size w w' := by
  have hl : s.data.toList.length = s.size := by simp
  obtain ⟨N, hN⟩ : ∃ N, N = a + runLen (s.data.toList.drop a) := ⟨_, rfl⟩
  rw [← hN]
  have hp1 := fun w => Tryz.strings_HasPrefix (s.extract a s.size) ⟨#[48, 120]⟩ w
  have hp2 := fun w => Tryz.strings_HasPrefix (s.extract a s.size) ⟨#[48, 88]⟩ w
  have hex : head? 120 88 (s.data.toList.drop a) = (Lib.hasPrefix (s.extract a s.size).data.toList [48, 120] || Lib.hasPrefix (s.extract a s.size).data.toList [48, 88]) := by
    rw [extract_drop]; exact head_prefix _
  obtain ⟨x1, hx1⟩ : ∃ v, v = Lib.hasPrefix (s.extract a s.size).data.toList [48, 120] := ⟨_, rfl⟩
  obtain ⟨x2, hx2⟩ : ∃ v, v = Lib.hasPrefix (s.extract a s.size).data.toList [48, 88] := ⟨_, rfl⟩
  rw [← hx1, ← hx2] at hex
  rw [show Lib.hasPrefix (s.extract a s.size).data.toList (⟨#[48, 120]⟩ : ByteArray).data.toList = x1 from hx1.symm] at hp1
  rw [show Lib.hasPrefix (s.extract a s.size).data.toList (⟨#[48, 88]⟩ : ByteArray).data.toList = x2 from hx2.symm] at hp2
  obtain ⟨f, hf⟩ : ∃ f, f = goesOn (x1 || x2) (s.data.toList.drop a) := ⟨_, rfl⟩
  have HN := Lib.hid (show N = a + runFrom f (s.size - a) 0 by rw [hN, hf, ← hex]; unfold runLen; rw [List.length_drop, hl])
  have HF := Lib.hid (show ∀ k, a ≤ k → (h : k < s.size) → f (k - a) = (tail? s[k] || signed? (powersOf (x1 || x2)).data.toList s.data.toList a k) by
    intro k h1 h2; rw [hf]; exact goes_eq s _ a k h1 h2)
  clear hN hf hx1 hx2 hex hl
  have ia' : (a : Int) ≤ s.size := by omega
  go_enter Tryz.func75, Tryz.ntmps75
  go_upto_region 2 with fail
  go_cut [17] from 8 to 17 (fun v wx => v = .bool (x1 || x2) ∧ wx = (((w.alloc (.cells #[.string s] 9)).alloc (.cells #[.int .i64 a] 3)).alloc (.cells #[.string ⟨#[101, 69]⟩] 9)))
  case first =>
    cases x1 <;> cases x2
    all_goals
      (go_wp2_with (first
        | (go_at_call 49; refine (hp1 _).mono ?_; rintro e w1 ⟨rfl, hw⟩; rw [hw]; clear hw w1)
        | (go_at_call 49; refine (hp2 _).mono ?_; rintro e w1 ⟨rfl, hw⟩; rw [hw]; clear hw w1))
       go_meet
       exact ⟨rfl, rfl⟩)
  case rest =>
  obtain ⟨rfl, rfl⟩ := hcut
  clear hp1 hp2
  obtain ⟨hex, hh⟩ : ∃ v, v = (x1 || x2) := ⟨_, rfl⟩
  rw [← hh] at HF ⊢
  clear hh
  cases hex with
  | true =>
    have NEW0 : (((w.alloc (.cells #[.string s] 9)).alloc (.cells #[.int .i64 a] 3)).alloc (.cells #[.string ⟨#[112, 80]⟩] 9)).cell? ⟨w.heap.size, 0, none⟩ = some (.string s) := cell_of (t := 9) (by show (((w.heap.push _).push _).push _)[w.heap.size]? = _; simp [Array.getElem?_push]; omega)
    have NEW1 : (((w.alloc (.cells #[.string s] 9)).alloc (.cells #[.int .i64 a] 3)).alloc (.cells #[.string ⟨#[112, 80]⟩] 9)).cell? ⟨w.heap.size + 1, 0, none⟩ = some (.int .i64 a) := cell_of (t := 3) (by show (((w.heap.push _).push _).push _)[w.heap.size + 1]? = _; simp [Array.getElem_push])
    have NEW2 : (((w.alloc (.cells #[.string s] 9)).alloc (.cells #[.int .i64 a] 3)).alloc (.cells #[.string ⟨#[112, 80]⟩] 9)).cell? ⟨w.heap.size + 1 + 1, 0, none⟩ = some (.string ⟨#[112, 80]⟩) := cell_of (t := 9) (by show (((w.heap.push _).push _).push _)[w.heap.size + 1 + 1]? = _; simp [Array.getElem_push])
    have HB0 : Below w.heap.size w (((w.alloc (.cells #[.string s] 9)).alloc (.cells #[.int .i64 a] 3)).alloc (.cells #[.string ⟨#[112, 80]⟩] 9)) := (((Below.refl _ w).alloc (Nat.le_refl _) _).alloc (by simp) _).alloc (by simp; omega) _
    go_wp2
    go_loopg [7] (s.size - a) (fun g ii wr => ∃ k : Nat, g = s.size - k ∧ a ≤ k ∧ k ≤ s.size ∧ ii = .int .i64 k ∧ wr.cell? ⟨w.heap.size, 0, none⟩ = some (.string s) ∧ wr.cell? ⟨w.heap.size + 1, 0, none⟩ = some (.int .i64 a) ∧ wr.cell? ⟨w.heap.size + 1 + 1, 0, none⟩ = some (.string ⟨#[112, 80]⟩) ∧ Below w.heap.size w wr ∧ Hid (N = a + runFrom f (s.size - k) (k - a)))
    case atStart => exact ⟨a, rfl, Nat.le_refl _, ia, rfl, NEW0, NEW1, NEW2, HB0, Lib.hid (by rw [HN.out, Nat.sub_self])⟩
    case round =>
      obtain ⟨k, rfl, hak, hk, rfl, c0, c1, c2, hB, hR⟩ := hrel
      by_cases hlt : k < s.size
      · have hfk := HF.out k hak hlt
        have hstep := hR.out
        rw [show s.size - k = (s.size - (k + 1)) + 1 by omega] at hstep
        unfold runFrom at hstep
        rw [hfk] at hstep
        have HSt := Lib.hid hstep
        have hsg := signed_c s ⟨#[112, 80]⟩ hs a k w.heap.size (w.heap.size + 1) (w.heap.size + 1 + 1) hlt wr c0 c1 c2
        obtain ⟨sg, hsgv⟩ : ∃ v, v = signed? (⟨#[112, 80]⟩ : ByteArray).data.toList s.data.toList a k := ⟨_, rfl⟩
        rw [← hsgv] at hsg
        have HSG := Lib.hid (show signed? (powersOf true).data.toList s.data.toList a k = sg from hsgv.symm)
        clear hstep hfk hsgv hR
        have hin := fun w => inRun_any s[k] w
        have d1 : (k : Int) < s.size := by omega
        obtain ⟨ti, hti⟩ : ∃ v, v = tail? s[k] := ⟨_, rfl⟩
        rw [← hti] at hin
        have HTI := Lib.hid hti
        clear hti
        cases ti with
        | true =>
          have hR2 : N = a + runFrom f (s.size - (k + 1)) (k + 1 - a) := by
            have := HSt.out
            rw [← HTI.out, Bool.true_or, if_pos rfl] at this
            rw [show k + 1 - a = k - a + 1 by omega]; exact this
          have hR2 := Lib.hid hR2
          clear HSt hsg
          go_wp2_with (go_at_call 91; refine (hin _).mono ?_; rintro e w1 ⟨rfl, hw⟩; rw [hw]; clear hw w1)
          go_roundg (s.size - (k + 1))
          case measure => omega
          case rel => exact ⟨k + 1, rfl, by omega, by omega, by go_num, c0, c1, c2, hB, hR2⟩
        | false =>
          cases sg with
          | true =>
            have hR2 : N = a + runFrom f (s.size - (k + 1)) (k + 1 - a) := by
              have := HSt.out
              rw [← HTI.out, HSG.out, Bool.false_or, if_pos rfl] at this
              rw [show k + 1 - a = k - a + 1 by omega]; exact this
            have hR2 := Lib.hid hR2
            clear HSt
            go_wp2_with (first
              | (go_at_call 91; refine (hin _).mono ?_; rintro e w1 ⟨rfl, hw⟩; rw [hw]; clear hw w1)
              | (go_at_call 90; refine hsg.mono ?_; rintro e w1 ⟨rfl, n, rfl⟩))
            go_roundg (s.size - (k + 1))
            case measure => omega
            case rel => exact ⟨k + 1, rfl, by omega, by omega, by go_num, c0, c1, c2, below_drewN hB n, hR2⟩
          | false =>
            have hr : N = k := by
              have := HSt.out
              rw [← HTI.out, HSG.out, Bool.false_or, if_neg (by decide)] at this
              omega
            have hr := Lib.hid hr
            clear HSt
            go_wp2_with (first
              | (go_at_call 91; refine (hin _).mono ?_; rintro e w1 ⟨rfl, hw⟩; rw [hw]; clear hw w1)
              | (go_at_call 90; refine hsg.mono ?_; rintro e w1 ⟨rfl, n, rfl⟩))
            go_ret
            exact ⟨ret_int (by have := hr.out; omega), below_drewN hB n⟩
      · have hr : N = s.size := by
          have := hR.out
          rw [show s.size - k = 0 by omega] at this
          unfold runFrom at this
          omega
        have hr := Lib.hid hr
        have d1 : ¬ (k : Int) < s.size := by omega
        go_wp2
        go_ret
        exact ⟨ret_int (by have := hr.out; omega), hB⟩
  | false =>
    have NEW0 : (((w.alloc (.cells #[.string s] 9)).alloc (.cells #[.int .i64 a] 3)).alloc (.cells #[.string ⟨#[101, 69]⟩] 9)).cell? ⟨w.heap.size, 0, none⟩ = some (.string s) := cell_of (t := 9) (by show (((w.heap.push _).push _).push _)[w.heap.size]? = _; simp [Array.getElem?_push]; omega)
    have NEW1 : (((w.alloc (.cells #[.string s] 9)).alloc (.cells #[.int .i64 a] 3)).alloc (.cells #[.string ⟨#[101, 69]⟩] 9)).cell? ⟨w.heap.size + 1, 0, none⟩ = some (.int .i64 a) := cell_of (t := 3) (by show (((w.heap.push _).push _).push _)[w.heap.size + 1]? = _; simp [Array.getElem_push])
    have NEW2 : (((w.alloc (.cells #[.string s] 9)).alloc (.cells #[.int .i64 a] 3)).alloc (.cells #[.string ⟨#[101, 69]⟩] 9)).cell? ⟨w.heap.size + 1 + 1, 0, none⟩ = some (.string ⟨#[101, 69]⟩) := cell_of (t := 9) (by show (((w.heap.push _).push _).push _)[w.heap.size + 1 + 1]? = _; simp [Array.getElem_push])
    have HB0 : Below w.heap.size w (((w.alloc (.cells #[.string s] 9)).alloc (.cells #[.int .i64 a] 3)).alloc (.cells #[.string ⟨#[101, 69]⟩] 9)) := (((Below.refl _ w).alloc (Nat.le_refl _) _).alloc (by simp) _).alloc (by simp; omega) _
    go_wp2
    go_loopg [7] (s.size - a) (fun g ii wr => ∃ k : Nat, g = s.size - k ∧ a ≤ k ∧ k ≤ s.size ∧ ii = .int .i64 k ∧ wr.cell? ⟨w.heap.size, 0, none⟩ = some (.string s) ∧ wr.cell? ⟨w.heap.size + 1, 0, none⟩ = some (.int .i64 a) ∧ wr.cell? ⟨w.heap.size + 1 + 1, 0, none⟩ = some (.string ⟨#[101, 69]⟩) ∧ Below w.heap.size w wr ∧ Hid (N = a + runFrom f (s.size - k) (k - a)))
    case atStart => exact ⟨a, rfl, Nat.le_refl _, ia, rfl, NEW0, NEW1, NEW2, HB0, Lib.hid (by rw [HN.out, Nat.sub_self])⟩
    case round =>
      obtain ⟨k, rfl, hak, hk, rfl, c0, c1, c2, hB, hR⟩ := hrel
      by_cases hlt : k < s.size
      · have hfk := HF.out k hak hlt
        have hstep := hR.out
        rw [show s.size - k = (s.size - (k + 1)) + 1 by omega] at hstep
        unfold runFrom at hstep
        rw [hfk] at hstep
        have HSt := Lib.hid hstep
        have hsg := signed_c s ⟨#[101, 69]⟩ hs a k w.heap.size (w.heap.size + 1) (w.heap.size + 1 + 1) hlt wr c0 c1 c2
        obtain ⟨sg, hsgv⟩ : ∃ v, v = signed? (⟨#[101, 69]⟩ : ByteArray).data.toList s.data.toList a k := ⟨_, rfl⟩
        rw [← hsgv] at hsg
        have HSG := Lib.hid (show signed? (powersOf false).data.toList s.data.toList a k = sg from hsgv.symm)
        clear hstep hfk hsgv hR
        have hin := fun w => inRun_any s[k] w
        have d1 : (k : Int) < s.size := by omega
        obtain ⟨ti, hti⟩ : ∃ v, v = tail? s[k] := ⟨_, rfl⟩
        rw [← hti] at hin
        have HTI := Lib.hid hti
        clear hti
        cases ti with
        | true =>
          have hR2 : N = a + runFrom f (s.size - (k + 1)) (k + 1 - a) := by
            have := HSt.out
            rw [← HTI.out, Bool.true_or, if_pos rfl] at this
            rw [show k + 1 - a = k - a + 1 by omega]; exact this
          have hR2 := Lib.hid hR2
          clear HSt hsg
          go_wp2_with (go_at_call 91; refine (hin _).mono ?_; rintro e w1 ⟨rfl, hw⟩; rw [hw]; clear hw w1)
          go_roundg (s.size - (k + 1))
          case measure => omega
          case rel => exact ⟨k + 1, rfl, by omega, by omega, by go_num, c0, c1, c2, hB, hR2⟩
        | false =>
          cases sg with
          | true =>
            have hR2 : N = a + runFrom f (s.size - (k + 1)) (k + 1 - a) := by
              have := HSt.out
              rw [← HTI.out, HSG.out, Bool.false_or, if_pos rfl] at this
              rw [show k + 1 - a = k - a + 1 by omega]; exact this
            have hR2 := Lib.hid hR2
            clear HSt
            go_wp2_with (first
              | (go_at_call 91; refine (hin _).mono ?_; rintro e w1 ⟨rfl, hw⟩; rw [hw]; clear hw w1)
              | (go_at_call 90; refine hsg.mono ?_; rintro e w1 ⟨rfl, n, rfl⟩))
            go_roundg (s.size - (k + 1))
            case measure => omega
            case rel => exact ⟨k + 1, rfl, by omega, by omega, by go_num, c0, c1, c2, below_drewN hB n, hR2⟩
          | false =>
            have hr : N = k := by
              have := HSt.out
              rw [← HTI.out, HSG.out, Bool.false_or, if_neg (by decide)] at this
              omega
            have hr := Lib.hid hr
            clear HSt
            go_wp2_with (first
              | (go_at_call 91; refine (hin _).mono ?_; rintro e w1 ⟨rfl, hw⟩; rw [hw]; clear hw w1)
              | (go_at_call 90; refine hsg.mono ?_; rintro e w1 ⟨rfl, n, rfl⟩))
            go_ret
            exact ⟨ret_int (by have := hr.out; omega), below_drewN hB n⟩
      · have hr : N = s.size := by
          have := hR.out
          rw [show s.size - k = 0 by omega] at this
          unfold runFrom at this
          omega
        have hr := Lib.hid hr
        have d1 : ¬ (k : Int) < s.size := by omega
        go_wp2
        go_ret
        exact ⟨ret_int (by have := hr.out; omega), hB⟩
end Go.Proofs.YtbkmlldhjchhjaaGreat.Num

/-
  Layer 5: contracts of number.Scan and of the document's Scan.
-/
namespace Go.Proofs.YtbkmlldhjchhjaaGreat.Num
open Go.ChangeShapes Go.WideShapes Go.ChangeAt Go.RowKit

theorem runFrom_ge (f : Nat → Bool) : ∀ n i, i ≤ runFrom f n i
  | 0, i => Nat.le_refl _
  | n + 1, i => by
    unfold runFrom
    split
    · have := runFrom_ge f n (i + 1); omega
    · omega
theorem starts_tail {c : UInt8} {t : List UInt8} (h : starts (c :: t) = true) : tail? c = true := by
  unfold starts at h
  rw [Bool.or_eq_true] at h
  rcases h with h | h
  · exact dig_tail h
  · rw [Bool.and_eq_true, decide_eq_true_eq] at h
    rw [h.1]; decide
theorem runLen_pos {t : List UInt8} (h : starts t = true) : 0 < runLen t := by
  match t, h with
  | c :: t, h =>
    unfold runLen
    rw [List.length_cons]
    unfold runFrom
    rw [if_pos (goes_tail (j := 0) rfl (starts_tail h))]
    have := runFrom_ge (goesOn (head? 120 88 (c :: t)) (c :: t)) t.length (0 + 1)
    omega

/-- what is found at a place, by what a text's kind is -/
def scanOf (kf : List UInt8 → Nat) (l : List UInt8) (at' : Int) : Nat × Int × Int :=
  if (decide (0 ≤ at') && starts (l.drop at'.toNat)) = true then
    (if kf ((l.drop at'.toNat).take (runLen (l.drop at'.toNat))) = 0 then (0, 0, 4) else (kf ((l.drop at'.toNat).take (runLen (l.drop at'.toNat))), ((at'.toNat + runLen (l.drop at'.toNat) : Nat) : Int), 0))
  else (0, 0, 15)
theorem slice_run (s : ByteArray) (a n : Nat) : (s.extract a (a + n)).data.toList = (s.data.toList.drop a).take n := by
  rw [extract_take, Nat.add_sub_cancel_left]

set_option maxHeartbeats 2000000 in
theorem scan_any (s : ByteArray) (hs : s.size ≤ 4611686018427387904) (at' : Int) (w : World) :
    Calls Tryz.prog 55 #[.string s, .int .i64 at'] w fun e w' => e = .returned (.tuple #[.int .u8 (scanOf kindP s.data.toList at').1, .int .i64 (scanOf kindP s.data.toList at').2.1, .int .i64 (scanOf kindP s.data.toList at').2.2]) ∧ Below w.heap.size w w' := by
  have hbeg := begins_any s hs at'
  obtain ⟨b, hb⟩ : ∃ b, b = (decide (0 ≤ at') && starts (s.data.toList.drop at'.toNat)) := ⟨_, rfl⟩
  rw [← hb] at hbeg
  cases b with
  | false =>
    have hr : scanOf kindP s.data.toList at' = (0, 0, 15) := by unfold scanOf; rw [if_neg (by rw [← hb]; decide)]
    rw [hr]
    clear hr hb
    go_enter Tryz.func55, Tryz.ntmps55
    go_wp2_with (go_at_call 74; refine (hbeg _).mono ?_; rintro e w1 ⟨rfl, hw⟩; rw [hw]; clear hw w1)
    go_ret3
    exact ⟨rfl, Below.refl _ _⟩
  | true =>
    have hb2 := hb.symm
    rw [Bool.and_eq_true, decide_eq_true_eq] at hb2
    obtain ⟨h0, hst⟩ := hb2
    obtain ⟨a, rfl⟩ : ∃ a : Nat, at' = (a : Int) := ⟨at'.toNat, by omega⟩
    rw [show ((a : Int)).toNat = a by omega] at hst
    have ia : a < s.size := by
      by_cases h : a < s.size
      · exact h
      · rw [List.drop_eq_nil_of_le (by simp; omega)] at hst; cases hst
    have hle := runLen_le (s.data.toList.drop a)
    have hl : s.data.toList.length = s.size := by simp
    rw [List.length_drop, hl] at hle
    have hrun := runEnd_any s hs a (by omega)
    obtain ⟨E, hE⟩ : ∃ E, E = a + runLen (s.data.toList.drop a) := ⟨_, rfl⟩
    rw [← hE] at hrun
    have hz : (s.extract a E).size ≤ 4611686018427387904 := by simp; omega
    have hkd := kind_any (s.extract a E) hz
    obtain ⟨K, hK⟩ : ∃ K, K = kindP (s.extract a E).data.toList := ⟨_, rfl⟩
    rw [← hK] at hkd
    have hr : scanOf kindP s.data.toList a = if K = 0 then (0, 0, 4) else (K, (E : Int), 0) := by
      unfold scanOf
      rw [if_pos hb.symm, show ((a : Int)).toNat = a by omega, ← slice_run, ← hE, ← hK]
    rw [hr]
    have haE : a ≤ E := by omega
    have hEs : E ≤ s.size := by omega
    have hA : Below w.heap.size w w := Below.refl _ _
    clear hr hK hE hle hl hst hb h0
    by_cases hk0 : K = 0
    · subst hk0
      rw [if_pos rfl]
      go_enter Tryz.func55, Tryz.ntmps55
      go_wp2_with (first
        | (go_at_call 74; refine (hbeg _).mono ?_; rintro e w1 ⟨rfl, hw⟩; rw [hw]; clear hw w1)
        | (go_at_call 75; refine (hrun _).mono ?_; rintro e w1 ⟨rfl, hB⟩; replace hA := hA.trans (hB.mono hA.size); clear hB)
        | (go_at_call 76; refine (hkd _).mono ?_; rintro e w1 ⟨rfl, hB⟩; replace hA := hA.trans (hB.mono hA.size); clear hB))
      go_ret3
      exact ⟨rfl, hA⟩
    · rw [if_neg hk0]
      have d1 : ((K : Int) == 0) = false := by rw [beq_eq_false_iff_ne]; omega
      go_enter Tryz.func55, Tryz.ntmps55
      go_wp2_with (first
        | (go_at_call 74; refine (hbeg _).mono ?_; rintro e w1 ⟨rfl, hw⟩; rw [hw]; clear hw w1)
        | (go_at_call 75; refine (hrun _).mono ?_; rintro e w1 ⟨rfl, hB⟩; replace hA := hA.trans (hB.mono hA.size); clear hB)
        | (go_at_call 76; refine (hkd _).mono ?_; rintro e w1 ⟨rfl, hB⟩; replace hA := hA.trans (hB.mono hA.size); clear hB))
      go_ret3
      exact ⟨rfl, hA⟩

set_option maxHeartbeats 2000000 in
theorem refScan_any (s : ByteArray) (hs : s.size ≤ 1048576) (at' : Int) (h0 : -9223372036854775808 ≤ at') (h1 : at' ≤ 9223372036854775807) (w : World) :
    Calls Tryz.prog 42 #[.string s, .int .i64 at'] w fun e w' => e = .returned (.tuple #[.int .u8 (scanOf kindOf s.data.toList at').1, .int .i64 (scanOf kindOf s.data.toList at').2.1, .int .i64 (scanOf kindOf s.data.toList at').2.2]) ∧ Below w.heap.size w w' := by
  have hA : Below w.heap.size w w := Below.refl _ _
  by_cases hb : (decide (0 ≤ at') && starts (s.data.toList.drop at'.toNat)) = true
  · have hb2 := hb
    rw [Bool.and_eq_true, decide_eq_true_eq] at hb2
    obtain ⟨h0, hst⟩ := hb2
    obtain ⟨a, rfl⟩ : ∃ a : Nat, at' = (a : Int) := ⟨at'.toNat, by omega⟩
    rw [show ((a : Int)).toNat = a by omega] at hst
    have ia : a < s.size := by
      by_cases h : a < s.size
      · exact h
      · rw [List.drop_eq_nil_of_le (by simp; omega)] at hst; cases hst
    have hle := runLen_le (s.data.toList.drop a)
    have hpos := runLen_pos hst
    have hl : s.data.toList.length = s.size := by simp
    rw [List.length_drop, hl] at hle
    have hrun := refRun_yes s hs a ia hst
    obtain ⟨E, hE⟩ : ∃ E, E = a + runLen (s.data.toList.drop a) := ⟨_, rfl⟩
    rw [← hE] at hrun
    have hz : (s.extract a E).size ≤ 1048576 := by simp; omega
    have hkd := refKind_any (s.extract a E) hz
    obtain ⟨K, hK⟩ : ∃ K, K = kindOf (s.extract a E).data.toList := ⟨_, rfl⟩
    rw [← hK] at hkd
    have hr : scanOf kindOf s.data.toList a = if K = 0 then (0, 0, 4) else (K, (E : Int), 0) := by
      unfold scanOf
      rw [if_pos hb, show ((a : Int)).toNat = a by omega, ← slice_run, ← hE, ← hK]
    rw [hr]
    have haE : a ≤ E := by omega
    have hEs : E ≤ s.size := by omega
    have d2 : ((E : Int) == (a : Int)) = false := by rw [beq_eq_false_iff_ne]; omega
    clear hr hK hE hle hl hst hb hpos
    by_cases hk0 : K = 0
    · subst hk0
      rw [if_pos rfl]
      go_enter Tryz.func42, Tryz.ntmps42
      go_wp2_with (first
        | (go_at_call 62; refine (hrun _).mono ?_; rintro e w1 ⟨rfl, hB⟩; replace hA := hA.trans (hB.mono hA.size); clear hB)
        | (go_at_call 63; refine (hkd _).mono ?_; rintro e w1 ⟨rfl, hB⟩; replace hA := hA.trans (hB.mono hA.size); clear hB))
      go_ret3
      exact ⟨rfl, hA⟩
    · rw [if_neg hk0]
      have d1 : ((K : Int) == 0) = false := by rw [beq_eq_false_iff_ne]; omega
      go_enter Tryz.func42, Tryz.ntmps42
      go_wp2_with (first
        | (go_at_call 62; refine (hrun _).mono ?_; rintro e w1 ⟨rfl, hB⟩; replace hA := hA.trans (hB.mono hA.size); clear hB)
        | (go_at_call 63; refine (hkd _).mono ?_; rintro e w1 ⟨rfl, hB⟩; replace hA := hA.trans (hB.mono hA.size); clear hB))
      go_ret3
      exact ⟨rfl, hA⟩
  · have hr : scanOf kindOf s.data.toList at' = (0, 0, 15) := by unfold scanOf; rw [if_neg hb]
    rw [hr]
    have hrun := refRun_no s hs at' h0 h1 (fun h => by
      rw [decide_eq_true h, Bool.true_and] at hb
      simpa using hb)
    clear hr hb
    go_enter Tryz.func42, Tryz.ntmps42
    go_wp2_with (go_at_call 62; refine (hrun _).mono ?_; rintro e w1 ⟨rfl, hB⟩; replace hA := hA.trans (hB.mono hA.size); clear hB)
    go_ret3
    exact ⟨rfl, hA⟩
end Go.Proofs.YtbkmlldhjchhjaaGreat.Num
