/-
  Texts E F of an earlier seat, under this one's numbers.
-/
import Derived.Test.YtoffjpgobhcipaaDoorQa
import Derived.Test.YtoffjpgobhcipaaDoorShelf
import Derived.Lib.Bytealg
set_option maxRecDepth 100000
/-
  Layer 6: contract of the reader's escape.
-/
namespace Go.Proofs.YtoffjpgobhcipaaDoor
open Go.ChangeShapes Go.WideShapes Go.ChangeAt Go.RowKit

/-- what a letter behind a backslash names -/
def named (c : UInt8) : Option UInt8 :=
  if c = 97 then some 7 else if c = 98 then some 8 else if c = 102 then some 12 else if c = 110 then some 10 else if c = 114 then some 13 else if c = 116 then some 9 else if c = 118 then some 11 else if c = 92 then some 92 else none
def digitsOf (c : UInt8) : Nat := if c = 85 then 8 else if c = 117 then 4 else 2
/-- an escape behind its backslash: what it says, where it ends -/
def escOf (m : UInt8) (k : Nat) : List UInt8 → Option (List UInt8 × Nat)
  | [] => none
  | c :: t =>
    if c = 85 ∨ c = 117 ∨ c = 120 then
      (numOf 16 (digitsOf c) 0 t).bind fun nr => (sayOf nr.1 m (decide (c = 120))).map fun L => (L, k + 1 + digitsOf c)
    else if 48 ≤ c.toNat ∧ c.toNat ≤ 55 then
      (numOf 8 3 0 (c :: t)).bind fun nr => if nr.1 ≤ 255 then (sayOf nr.1 m true).map fun L => (L, k + 3) else none
    else if c = 39 ∨ c = 34 then (if c = m then some ([c], k + 1) else none)
    else (named c).map fun x => ([x], k + 1)
theorem escOf_cons (m : UInt8) (k : Nat) (c : UInt8) (t : List UInt8) : escOf m k (c :: t) =
    if c = 85 ∨ c = 117 ∨ c = 120 then
      (numOf 16 (digitsOf c) 0 t).bind fun nr => (sayOf nr.1 m (decide (c = 120))).map fun L => (L, k + 1 + digitsOf c)
    else if 48 ≤ c.toNat ∧ c.toNat ≤ 55 then
      (numOf 8 3 0 (c :: t)).bind fun nr => if nr.1 ≤ 255 then (sayOf nr.1 m true).map fun L => (L, k + 3) else none
    else if c = 39 ∨ c = 34 then (if c = m then some ([c], k + 1) else none)
    else (named c).map fun x => ([x], k + 1) := rfl
theorem numOf_lt (base : Nat) (hb : 0 < base) : ∀ (d n : Nat) (l : List UInt8) (n' : Nat) (r : List UInt8), numOf base d n l = some (n', r) → n' < (n + 1) * base ^ d
  | 0, n, l, n', r, h => by
    have : n = n' := by simpa [numOf] using congrArg (Option.map Prod.fst) h
    simp; omega
  | d + 1, n, [], n', r, h => by cases h
  | d + 1, n, c :: t, n', r, h => by
    by_cases hc : 0 ≤ hexOf c.toNat ∧ hexOf c.toNat < base
    · rw [numOf_step hc] at h
      have ih := numOf_lt base hb d _ t n' r h
      refine Nat.lt_of_lt_of_le ih ?_
      rw [Nat.pow_succ, Nat.mul_comm (base ^ d) base, ← Nat.mul_assoc]
      apply Nat.mul_le_mul_right
      rw [Nat.add_mul]
      omega
    · rw [numOf_stop hc] at h; cases h

set_option maxRecDepth 100000 in
set_option maxHeartbeats 4000000 in
theorem esc_end (s : ByteArray) (m : UInt8) (b k : Nat) (v : Value) (T : List UInt8) (w : World) (hR : Rd w b s k v T) (hk : s.size ≤ k) :
    Calls Tryd.prog 78 #[.pointer (some ⟨b, 0, none⟩), .int .u8 m.toNat] w fun e w' => e = .returned (.bool (escOf m k (s.data.toList.drop k)).isSome) ∧ (∀ L k', escOf m k (s.data.toList.drop k) = some (L, k') → ∃ v', Rd w' b s k' v' (T ++ L)) ∧ Below b w w' := by
  have hA : escOf m k (s.data.toList.drop k) = none := by rw [List.drop_of_length_le (by simp; omega)]; rfl
  rw [hA]
  have c0 := hR.c0
  have c1 := hR.c1
  have d1 : decide (s.size ≤ k) = true := decide_eq_true hk
  clear hA hk
  go_enter Tryd.func78, Tryd.ntmps78
  go_upto_region 1 with fail
  go_quiet (fail)
  go_wp2
  go_ret
  (first | exact ⟨rfl, (fun _ _ h => by cases h), below_drewN (Below.refl b w) _⟩ | exact ⟨rfl, below_drewN (Below.refl b w) _⟩)
set_option maxRecDepth 100000 in
set_option maxHeartbeats 4000000 in
theorem esc_85 (s : ByteArray) (hs : s.size ≤ 140737488351232) (m : UInt8) (b k : Nat) (v : Value) (T : List UInt8) (hT : T.length ≤ k) (w : World) (hR : Rd w b s k v T) (hk : k < s.size) (hc : s[k] = 85) :
    Calls Tryd.prog 78 #[.pointer (some ⟨b, 0, none⟩), .int .u8 m.toNat] w fun e w' => e = .returned (.bool (escOf m k (s.data.toList.drop k)).isSome) ∧ (∀ L k', escOf m k (s.data.toList.drop k) = some (L, k') → ∃ v', Rd w' b s k' v' (T ++ L)) ∧ Below b w w' := by
  obtain ⟨A, hA⟩ : ∃ A, A = escOf m k (s.data.toList.drop k) := ⟨_, rfl⟩
  rw [← hA]
  obtain ⟨N, hN⟩ : ∃ N, N = numOf 16 8 0 (s.data.toList.drop (k + 1)) := ⟨_, rfl⟩
  have hA2 : A = N.bind fun nr => (sayOf nr.1 m false).map fun L => (L, k + 1 + 8) := by
    rw [hA, drop_at s k hk, hc, hN, escOf_cons, if_pos (by decide)]; rfl
  have c0 := hR.c0
  have c1 := hR.c1
  have f1 := hR.f 1
  have hlt2 := hR.lt
  have d1 : decide (s.size ≤ k) = false := decide_eq_false (by omega)
  have d2 : (k : Int) < s.size := by omega
  have d3 : (0 : Int) ≤ k := by omega
  have w1 : IntKind.i64.wrap ((k : Int) + 1) = (k : Int) + 1 := by rw [IntKind.wrap_i64]; omega
  have HM := Lib.hid (show ∀ i, Rd ((w.drewN i).setCell ⟨b, 1, none⟩ (.int .i64 ((k : Int) + 1))) b s (k + 1) v T from fun i => (hR.drewN i).move (k + 1) (by omega))
  have hBm := Lib.hid (show ∀ i, Below b w ((w.drewN i).setCell ⟨b, 1, none⟩ (.int .i64 ((k : Int) + 1))) from fun i => (below_drewN (Below.refl b w) i).setCell (p := ⟨b, 1, none⟩) (Nat.le_refl _) _)
  have hcn : (s[k].toNat : Int) = 85 := by rw [hc]; rfl
  have hnum := fun i => number_any s (by omega) 8 16 (by decide) (by decide) b (k + 1) v T _ (HM.out i)
  rw [← hN] at hnum
  have HNN := Lib.hid hN
  have HTT := Lib.hid (show T.length ≤ 140737488351232 by omega)
  clear hR hA hc hN
  cases N with
  | none =>
    have hz : A = none := hA2
    subst hz
    clear hA2
    go_enter Tryd.func78, Tryd.ntmps78
    go_upto_region 1 with fail
    go_quiet (fail)
    go_upto_region 3 with fail
    go_quiet (fail)
    go_wp2_with (go_at_call 88; refine (hnum _).mono ?_; rintro e w2 ⟨he, _, hB2⟩; have he' : e = .returned (.tuple #[.int .i64 0, .bool false]) := he; clear he; subst he')
    go_ret
    (first | exact ⟨rfl, (fun _ _ h => by cases h), (hBm.out _).trans hB2⟩ | exact ⟨rfl, (hBm.out _).trans hB2⟩)
  | some nr =>
    obtain ⟨n, r⟩ := nr
    have hz : A = (sayOf n m false).map fun L => (L, k + 1 + 8) := hA2
    have hlt := numOf_lt 16 (by decide) _ _ _ _ _ HNN.out.symm
    have hn1 : n ≤ 4294967295 := by
      have : (16 : Nat) ^ 8 = 4294967296 := by decide
      omega
    have hn2 : n ≤ 4294967295 := by
      have : (16 : Nat) ^ 8 = 4294967296 := by decide
      omega
    have HZ := Lib.hid hz
    have HH := Lib.hid (And.intro hn1 hn2)
    clear hA2 hz hlt hn1 hn2
    go_enter Tryd.func78, Tryd.ntmps78
    go_upto_region 1 with fail
    go_quiet (fail)
    go_upto_region 3 with fail
    go_quiet (fail)
    go_wp2_with (first
      | (go_at_call 88; refine (hnum _).mono ?_; rintro e w2 ⟨he, hN2, hB2⟩; have he' : e = .returned (.tuple #[.int .i64 n, .bool true]) := he; clear he; subst he'; replace hN2 := hN2 n r rfl; replace hB2 := (hBm.out _).trans hB2)
      | (go_at_call 89; refine (say_any s n m false HH.out.1 (fun h => by cases h) b (k + 1 + 8) v T HTT.out _ hN2).mono ?_; rintro e w3 ⟨rfl, hS, hB3⟩; replace hB3 := hB2.trans hB3; have HS := Lib.hid hS; clear hS))
    go_ret
    refine ⟨by rw [HZ.out, Option.isSome_map]; rfl, fun L k' h => ?_, hB3⟩
    rw [HZ.out] at h
    cases hsy : sayOf n m false with
    | none => rw [hsy] at h; cases h
    | some L0 => rw [hsy] at h; cases h; exact HS.out _ hsy
set_option maxRecDepth 100000 in
set_option maxHeartbeats 4000000 in
theorem esc_117 (s : ByteArray) (hs : s.size ≤ 140737488351232) (m : UInt8) (b k : Nat) (v : Value) (T : List UInt8) (hT : T.length ≤ k) (w : World) (hR : Rd w b s k v T) (hk : k < s.size) (hc : s[k] = 117) :
    Calls Tryd.prog 78 #[.pointer (some ⟨b, 0, none⟩), .int .u8 m.toNat] w fun e w' => e = .returned (.bool (escOf m k (s.data.toList.drop k)).isSome) ∧ (∀ L k', escOf m k (s.data.toList.drop k) = some (L, k') → ∃ v', Rd w' b s k' v' (T ++ L)) ∧ Below b w w' := by
  obtain ⟨A, hA⟩ : ∃ A, A = escOf m k (s.data.toList.drop k) := ⟨_, rfl⟩
  rw [← hA]
  obtain ⟨N, hN⟩ : ∃ N, N = numOf 16 4 0 (s.data.toList.drop (k + 1)) := ⟨_, rfl⟩
  have hA2 : A = N.bind fun nr => (sayOf nr.1 m false).map fun L => (L, k + 1 + 4) := by
    rw [hA, drop_at s k hk, hc, hN, escOf_cons, if_pos (by decide)]; rfl
  have c0 := hR.c0
  have c1 := hR.c1
  have f1 := hR.f 1
  have hlt2 := hR.lt
  have d1 : decide (s.size ≤ k) = false := decide_eq_false (by omega)
  have d2 : (k : Int) < s.size := by omega
  have d3 : (0 : Int) ≤ k := by omega
  have w1 : IntKind.i64.wrap ((k : Int) + 1) = (k : Int) + 1 := by rw [IntKind.wrap_i64]; omega
  have HM := Lib.hid (show ∀ i, Rd ((w.drewN i).setCell ⟨b, 1, none⟩ (.int .i64 ((k : Int) + 1))) b s (k + 1) v T from fun i => (hR.drewN i).move (k + 1) (by omega))
  have hBm := Lib.hid (show ∀ i, Below b w ((w.drewN i).setCell ⟨b, 1, none⟩ (.int .i64 ((k : Int) + 1))) from fun i => (below_drewN (Below.refl b w) i).setCell (p := ⟨b, 1, none⟩) (Nat.le_refl _) _)
  have hcn : (s[k].toNat : Int) = 117 := by rw [hc]; rfl
  have hnum := fun i => number_any s (by omega) 4 16 (by decide) (by decide) b (k + 1) v T _ (HM.out i)
  rw [← hN] at hnum
  have HNN := Lib.hid hN
  have HTT := Lib.hid (show T.length ≤ 140737488351232 by omega)
  clear hR hA hc hN
  cases N with
  | none =>
    have hz : A = none := hA2
    subst hz
    clear hA2
    go_enter Tryd.func78, Tryd.ntmps78
    go_upto_region 1 with fail
    go_quiet (fail)
    go_upto_region 3 with fail
    go_quiet (fail)
    go_wp2_with (go_at_call 88; refine (hnum _).mono ?_; rintro e w2 ⟨he, _, hB2⟩; have he' : e = .returned (.tuple #[.int .i64 0, .bool false]) := he; clear he; subst he')
    go_ret
    (first | exact ⟨rfl, (fun _ _ h => by cases h), (hBm.out _).trans hB2⟩ | exact ⟨rfl, (hBm.out _).trans hB2⟩)
  | some nr =>
    obtain ⟨n, r⟩ := nr
    have hz : A = (sayOf n m false).map fun L => (L, k + 1 + 4) := hA2
    have hlt := numOf_lt 16 (by decide) _ _ _ _ _ HNN.out.symm
    have hn1 : n ≤ 4294967295 := by
      have : (16 : Nat) ^ 4 = 65536 := by decide
      omega
    have hn2 : n ≤ 4294967295 := by
      have : (16 : Nat) ^ 4 = 65536 := by decide
      omega
    have HZ := Lib.hid hz
    have HH := Lib.hid (And.intro hn1 hn2)
    clear hA2 hz hlt hn1 hn2
    go_enter Tryd.func78, Tryd.ntmps78
    go_upto_region 1 with fail
    go_quiet (fail)
    go_upto_region 3 with fail
    go_quiet (fail)
    go_wp2_with (first
      | (go_at_call 88; refine (hnum _).mono ?_; rintro e w2 ⟨he, hN2, hB2⟩; have he' : e = .returned (.tuple #[.int .i64 n, .bool true]) := he; clear he; subst he'; replace hN2 := hN2 n r rfl; replace hB2 := (hBm.out _).trans hB2)
      | (go_at_call 89; refine (say_any s n m false HH.out.1 (fun h => by cases h) b (k + 1 + 4) v T HTT.out _ hN2).mono ?_; rintro e w3 ⟨rfl, hS, hB3⟩; replace hB3 := hB2.trans hB3; have HS := Lib.hid hS; clear hS))
    go_ret
    refine ⟨by rw [HZ.out, Option.isSome_map]; rfl, fun L k' h => ?_, hB3⟩
    rw [HZ.out] at h
    cases hsy : sayOf n m false with
    | none => rw [hsy] at h; cases h
    | some L0 => rw [hsy] at h; cases h; exact HS.out _ hsy
set_option maxRecDepth 100000 in
set_option maxHeartbeats 4000000 in
theorem esc_120 (s : ByteArray) (hs : s.size ≤ 140737488351232) (m : UInt8) (b k : Nat) (v : Value) (T : List UInt8) (hT : T.length ≤ k) (w : World) (hR : Rd w b s k v T) (hk : k < s.size) (hc : s[k] = 120) :
    Calls Tryd.prog 78 #[.pointer (some ⟨b, 0, none⟩), .int .u8 m.toNat] w fun e w' => e = .returned (.bool (escOf m k (s.data.toList.drop k)).isSome) ∧ (∀ L k', escOf m k (s.data.toList.drop k) = some (L, k') → ∃ v', Rd w' b s k' v' (T ++ L)) ∧ Below b w w' := by
  obtain ⟨A, hA⟩ : ∃ A, A = escOf m k (s.data.toList.drop k) := ⟨_, rfl⟩
  rw [← hA]
  obtain ⟨N, hN⟩ : ∃ N, N = numOf 16 2 0 (s.data.toList.drop (k + 1)) := ⟨_, rfl⟩
  have hA2 : A = N.bind fun nr => (sayOf nr.1 m true).map fun L => (L, k + 1 + 2) := by
    rw [hA, drop_at s k hk, hc, hN, escOf_cons, if_pos (by decide)]; rfl
  have c0 := hR.c0
  have c1 := hR.c1
  have f1 := hR.f 1
  have hlt2 := hR.lt
  have d1 : decide (s.size ≤ k) = false := decide_eq_false (by omega)
  have d2 : (k : Int) < s.size := by omega
  have d3 : (0 : Int) ≤ k := by omega
  have w1 : IntKind.i64.wrap ((k : Int) + 1) = (k : Int) + 1 := by rw [IntKind.wrap_i64]; omega
  have HM := Lib.hid (show ∀ i, Rd ((w.drewN i).setCell ⟨b, 1, none⟩ (.int .i64 ((k : Int) + 1))) b s (k + 1) v T from fun i => (hR.drewN i).move (k + 1) (by omega))
  have hBm := Lib.hid (show ∀ i, Below b w ((w.drewN i).setCell ⟨b, 1, none⟩ (.int .i64 ((k : Int) + 1))) from fun i => (below_drewN (Below.refl b w) i).setCell (p := ⟨b, 1, none⟩) (Nat.le_refl _) _)
  have hcn : (s[k].toNat : Int) = 120 := by rw [hc]; rfl
  have hnum := fun i => number_any s (by omega) 2 16 (by decide) (by decide) b (k + 1) v T _ (HM.out i)
  rw [← hN] at hnum
  have HNN := Lib.hid hN
  have HTT := Lib.hid (show T.length ≤ 140737488351232 by omega)
  clear hR hA hc hN
  cases N with
  | none =>
    have hz : A = none := hA2
    subst hz
    clear hA2
    go_enter Tryd.func78, Tryd.ntmps78
    go_upto_region 1 with fail
    go_quiet (fail)
    go_upto_region 3 with fail
    go_quiet (fail)
    go_wp2_with (go_at_call 88; refine (hnum _).mono ?_; rintro e w2 ⟨he, _, hB2⟩; have he' : e = .returned (.tuple #[.int .i64 0, .bool false]) := he; clear he; subst he')
    go_ret
    (first | exact ⟨rfl, (fun _ _ h => by cases h), (hBm.out _).trans hB2⟩ | exact ⟨rfl, (hBm.out _).trans hB2⟩)
  | some nr =>
    obtain ⟨n, r⟩ := nr
    have hz : A = (sayOf n m true).map fun L => (L, k + 1 + 2) := hA2
    have hlt := numOf_lt 16 (by decide) _ _ _ _ _ HNN.out.symm
    have hn1 : n ≤ 4294967295 := by
      have : (16 : Nat) ^ 2 = 256 := by decide
      omega
    have hn2 : n ≤ 255 := by
      have : (16 : Nat) ^ 2 = 256 := by decide
      omega
    have HZ := Lib.hid hz
    have HH := Lib.hid (And.intro hn1 hn2)
    clear hA2 hz hlt hn1 hn2
    go_enter Tryd.func78, Tryd.ntmps78
    go_upto_region 1 with fail
    go_quiet (fail)
    go_upto_region 3 with fail
    go_quiet (fail)
    go_wp2_with (first
      | (go_at_call 88; refine (hnum _).mono ?_; rintro e w2 ⟨he, hN2, hB2⟩; have he' : e = .returned (.tuple #[.int .i64 n, .bool true]) := he; clear he; subst he'; replace hN2 := hN2 n r rfl; replace hB2 := (hBm.out _).trans hB2)
      | (go_at_call 89; refine (say_any s n m true HH.out.1 (fun _ => HH.out.2) b (k + 1 + 2) v T HTT.out _ hN2).mono ?_; rintro e w3 ⟨rfl, hS, hB3⟩; replace hB3 := hB2.trans hB3; have HS := Lib.hid hS; clear hS))
    go_ret
    refine ⟨by rw [HZ.out, Option.isSome_map]; rfl, fun L k' h => ?_, hB3⟩
    rw [HZ.out] at h
    cases hsy : sayOf n m true with
    | none => rw [hsy] at h; cases h
    | some L0 => rw [hsy] at h; cases h; exact HS.out _ hsy
end Go.Proofs.YtoffjpgobhcipaaDoor

/-
  Layer 6: contract of the reader's escape: digits, marks.
-/
namespace Go.Proofs.YtoffjpgobhcipaaDoor
open Go.ChangeShapes Go.WideShapes Go.ChangeAt Go.RowKit

set_option maxRecDepth 100000 in
set_option maxHeartbeats 8000000 in
theorem esc_oct (s : ByteArray) (hs : s.size ≤ 140737488351232) (m : UInt8) (b k : Nat) (v : Value) (T : List UInt8) (hT : T.length ≤ k) (w : World) (hR : Rd w b s k v T) (hk : k < s.size) (hc : 48 ≤ s[k].toNat ∧ s[k].toNat ≤ 55) :
    Calls Tryd.prog 78 #[.pointer (some ⟨b, 0, none⟩), .int .u8 m.toNat] w fun e w' => e = .returned (.bool (escOf m k (s.data.toList.drop k)).isSome) ∧ (∀ L k', escOf m k (s.data.toList.drop k) = some (L, k') → ∃ v', Rd w' b s k' v' (T ++ L)) ∧ Below b w w' := by
  obtain ⟨A, hA⟩ : ∃ A, A = escOf m k (s.data.toList.drop k) := ⟨_, rfl⟩
  rw [← hA]
  obtain ⟨N, hN⟩ : ∃ N, N = numOf 8 3 0 (s.data.toList.drop k) := ⟨_, rfl⟩
  have hA2 : A = N.bind fun nr => if nr.1 ≤ 255 then (sayOf nr.1 m true).map fun L => (L, k + 3) else none := by
    have h1 : ¬ (s[k] = 85 ∨ s[k] = 117 ∨ s[k] = 120) := by
      rintro (h | h | h) <;> (rw [h] at hc; revert hc; decide)
    rw [hA, hN, drop_at s k hk, escOf_cons, if_neg h1, if_pos hc]
  have c0 := hR.c0
  have c1 := hR.c1
  have f1 := hR.f 1
  have hlt2 := hR.lt
  have d1 : decide (s.size ≤ k) = false := decide_eq_false (by omega)
  have d2 : (k : Int) < s.size := by omega
  have d3 : (0 : Int) ≤ k := by omega
  have w1 : IntKind.i64.wrap ((k : Int) + 1) = (k : Int) + 1 := by rw [IntKind.wrap_i64]; omega
  have HM := Lib.hid (show ∀ i, Rd ((w.drewN i).setCell ⟨b, 1, none⟩ (.int .i64 ((k : Int) + 1))) b s (k + 1) v T from fun i => (hR.drewN i).move (k + 1) (by omega))
  have hBm := Lib.hid (show ∀ i, Below b w ((w.drewN i).setCell ⟨b, 1, none⟩ (.int .i64 ((k : Int) + 1))) from fun i => (below_drewN (Below.refl b w) i).setCell (p := ⟨b, 1, none⟩) (Nat.le_refl _) _)
  have w2 : IntKind.i64.wrap ((k : Int) + 1 - 1) = (k : Int) := by rw [IntKind.wrap_i64]; omega
  have HM2 := Lib.hid (show ∀ i, Rd (((w.drewN i).setCell ⟨b, 1, none⟩ (.int .i64 ((k : Int) + 1))).setCell ⟨b, 1, none⟩ (.int .i64 (k : Int))) b s k v T from fun i => (HM.out i).move k (by omega))
  have hBm2 := Lib.hid (show ∀ i, Below b w (((w.drewN i).setCell ⟨b, 1, none⟩ (.int .i64 ((k : Int) + 1))).setCell ⟨b, 1, none⟩ (.int .i64 (k : Int))) from fun i => (hBm.out i).setCell (p := ⟨b, 1, none⟩) (Nat.le_refl _) _)
  have hf1 := fun i => (HM.out i).f 1
  have hnum := fun i => number_any s (by omega) 3 8 (by decide) (by decide) b k v T _ (HM2.out i)
  rw [← hN] at hnum
  have HTT := Lib.hid (show T.length ≤ 140737488351232 by omega)
  have HA2 := Lib.hid hA2
  have hcs : (s[k].toNat : Int) = 48 ∨ (s[k].toNat : Int) = 49 ∨ (s[k].toNat : Int) = 50 ∨ (s[k].toNat : Int) = 51 ∨ (s[k].toNat : Int) = 52 ∨ (s[k].toNat : Int) = 53 ∨ (s[k].toNat : Int) = 54 ∨ (s[k].toNat : Int) = 55 := by omega
  have HNN := Lib.hid hN
  clear hR hA hc hN hA2
  cases N with
  | none =>
    have hz : A = none := HA2.out
    subst hz
    rcases hcs with hcn | hcn | hcn | hcn | hcn | hcn | hcn | hcn
    all_goals
      go_enter Tryd.func78, Tryd.ntmps78
      go_upto_region 1 with fail
      go_quiet (fail)
      go_upto_region 3 with fail
      go_quiet (fail)
      go_wp2_with (go_at_call 88; refine (hnum _).mono ?_; rintro e w2 ⟨he, _, hB2⟩; have he' : e = .returned (.tuple #[.int .i64 0, .bool false]) := he; clear he; subst he')
      go_ret
      (first | exact ⟨rfl, (fun _ _ h => by cases h), (hBm2.out _).trans hB2⟩ | exact ⟨rfl, (hBm2.out _).trans hB2⟩)
  | some nr =>
    obtain ⟨n, r⟩ := nr
    have hz : A = if n ≤ 255 then (sayOf n m true).map fun L => (L, k + 3) else none := HA2.out
    have hlt := numOf_lt 8 (by decide) _ _ _ _ _ HNN.out.symm
    have hn1 : n ≤ 511 := by
      have : (8 : Nat) ^ 3 = 512 := by decide
      omega
    by_cases h255 : n ≤ 255
    · have HZ := Lib.hid (show A = (sayOf n m true).map fun L => (L, k + 3) by rw [hz, if_pos h255])
      have HH := Lib.hid h255
      have d5 : (n : Int) ≤ 255 := by omega
      clear hz hlt
      rcases hcs with hcn | hcn | hcn | hcn | hcn | hcn | hcn | hcn
      all_goals
        go_enter Tryd.func78, Tryd.ntmps78
        go_upto_region 1 with fail
        go_quiet (fail)
        go_upto_region 3 with fail
        go_quiet (fail)
        go_wp2_with (first
          | (go_at_call 88; refine (hnum _).mono ?_; rintro e w2 ⟨he, hN2, hB2⟩; have he' : e = .returned (.tuple #[.int .i64 n, .bool true]) := he; clear he; subst he'; replace hN2 := hN2 n r rfl; replace hB2 := (hBm2.out _).trans hB2)
          | (go_at_call 89; refine (say_any s n m true (by omega) (fun _ => HH.out) b (k + 3) v T HTT.out _ hN2).mono ?_; rintro e w3 ⟨rfl, hS, hB3⟩; replace hB3 := hB2.trans hB3; have HS := Lib.hid hS; clear hS))
        go_ret
        refine ⟨by rw [HZ.out, Option.isSome_map]; rfl, fun L k' h => ?_, hB3⟩
        rw [HZ.out] at h
        cases hsy : sayOf n m true with
        | none => rw [hsy] at h; cases h
        | some L0 => rw [hsy] at h; cases h; exact HS.out _ hsy
    · have hz2 : A = none := by rw [hz, if_neg h255]
      subst hz2
      have d5 : ¬ (n : Int) ≤ 255 := by omega
      clear hz hlt h255
      rcases hcs with hcn | hcn | hcn | hcn | hcn | hcn | hcn | hcn
      all_goals
        go_enter Tryd.func78, Tryd.ntmps78
        go_upto_region 1 with fail
        go_quiet (fail)
        go_upto_region 3 with fail
        go_quiet (fail)
        go_wp2_with (go_at_call 88; refine (hnum _).mono ?_; rintro e w2 ⟨he, _, hB2⟩; have he' : e = .returned (.tuple #[.int .i64 n, .bool true]) := he; clear he; subst he')
        go_ret
        (first | exact ⟨rfl, (fun _ _ h => by cases h), (hBm2.out _).trans hB2⟩ | exact ⟨rfl, (hBm2.out _).trans hB2⟩)
set_option maxRecDepth 100000 in
set_option maxHeartbeats 4000000 in
theorem esc_39 (s : ByteArray) (hs : s.size ≤ 140737488351232) (m : UInt8) (b k : Nat) (v : Value) (T : List UInt8) (hT : T.length ≤ k) (w : World) (hR : Rd w b s k v T) (hk : k < s.size) (hc : s[k] = 39) :
    Calls Tryd.prog 78 #[.pointer (some ⟨b, 0, none⟩), .int .u8 m.toNat] w fun e w' => e = .returned (.bool (escOf m k (s.data.toList.drop k)).isSome) ∧ (∀ L k', escOf m k (s.data.toList.drop k) = some (L, k') → ∃ v', Rd w' b s k' v' (T ++ L)) ∧ Below b w w' := by
  obtain ⟨i0, hi, hz0, hz1, hz2⟩ := info_parts info5
  obtain ⟨A, hA⟩ : ∃ A, A = escOf m k (s.data.toList.drop k) := ⟨_, rfl⟩
  rw [← hA]
  have hA2 : A = if (39 : UInt8) = m then some ([39], k + 1) else none := by
    rw [hA, drop_at s k hk, hc, escOf_cons, if_neg (by decide), if_neg (by decide), if_pos (by decide)]
  have c0 := hR.c0
  have c1 := hR.c1
  have f1 := hR.f 1
  have hlt2 := hR.lt
  have d1 : decide (s.size ≤ k) = false := decide_eq_false (by omega)
  have d2 : (k : Int) < s.size := by omega
  have d3 : (0 : Int) ≤ k := by omega
  have w1 : IntKind.i64.wrap ((k : Int) + 1) = (k : Int) + 1 := by rw [IntKind.wrap_i64]; omega
  have HM := Lib.hid (show ∀ i, Rd ((w.drewN i).setCell ⟨b, 1, none⟩ (.int .i64 ((k : Int) + 1))) b s (k + 1) v T from fun i => (hR.drewN i).move (k + 1) (by omega))
  have hBm := Lib.hid (show ∀ i, Below b w ((w.drewN i).setCell ⟨b, 1, none⟩ (.int .i64 ((k : Int) + 1))) from fun i => (below_drewN (Below.refl b w) i).setCell (p := ⟨b, 1, none⟩) (Nat.le_refl _) _)
  have hcn : (s[k].toNat : Int) = 39 := by rw [hc]; rfl
  have hcM := fun i => (HM.out i).c2
  have bm : ((39 : Int) == (m.toNat : Int)) = decide ((39 : UInt8) = m) := bytes_eq 39 m
  have HA2 := Lib.hid hA2
  clear hR hA hc hA2
  cases hm : decide ((39 : UInt8) = m)
  all_goals
    rw [hm] at bm
    have HD := Lib.hid hm
    clear hm
    go_enter Tryd.func78, Tryd.ntmps78
    go_upto_region 1 with fail
    go_quiet (fail)
    go_upto_region 3 with fail
    go_quiet (fail)
    go_wp2_with (at_builtin; refine wpList_append_own _ rfl _ _ 40 rfl (b + 1) 5 i0 (.int .u8 0) 1 1 Tryd.underlying40 hi hz0 hz1 hz2 rfl (by decide) _ _ _ rfl ((HM.out _).own.alloc _) ⟨_, 0, none⟩ 1 1 [.int .u8 39] rfl rfl ?_ ?_ ?_ ?_ ?_ ?_)
    try any_goals (first | rfl | (unfold maxLen; omega) | omega | exact one_new _ _ _ | exact one_at _ _ _ _ (by simp) | (intro u hu; simp at hu; subst hu; rfl; done) | (simp; omega))
    intro v' w1 hown' hgrow _
    obtain ⟨g1, g2, g3⟩ := ((HM.out _).alloc _).grew (L := [39]) hown' hgrow
    obtain ⟨ao, nn, cap, rfl⟩ := own_slice hown'
    have d5 : w1.frozen? ⟨b, 2, none⟩ = false := by unfold World.frozen?; simp only [g1]; rfl
    have d6 : w1.cell? ⟨b, 2, none⟩ = some v := by unfold World.cell?; simp only [g1]; rfl
    have G := Lib.hid (And.intro g2 (((hBm.out _).alloc (Nat.le_of_lt (by simpa using hlt2)) _).trans g3))
    clear g1 g2 g3 hown' hgrow
    go_wp2
    go_ret
    first
      | (have hz : A = some ([39], k + 1) := (by rw [HA2.out, if_pos (of_decide_eq_true HD.out)])
         exact ⟨by rw [hz]; rfl, (fun L k' h => by rw [hz] at h; cases h; exact ⟨_, G.out.1⟩), G.out.2⟩)
      | (have hz : A = none := (by rw [HA2.out, if_neg (of_decide_eq_false HD.out)])
         exact ⟨by rw [hz]; rfl, (fun L k' h => by rw [hz] at h; cases h), G.out.2⟩)
set_option maxRecDepth 100000 in
set_option maxHeartbeats 4000000 in
theorem esc_34 (s : ByteArray) (hs : s.size ≤ 140737488351232) (m : UInt8) (b k : Nat) (v : Value) (T : List UInt8) (hT : T.length ≤ k) (w : World) (hR : Rd w b s k v T) (hk : k < s.size) (hc : s[k] = 34) :
    Calls Tryd.prog 78 #[.pointer (some ⟨b, 0, none⟩), .int .u8 m.toNat] w fun e w' => e = .returned (.bool (escOf m k (s.data.toList.drop k)).isSome) ∧ (∀ L k', escOf m k (s.data.toList.drop k) = some (L, k') → ∃ v', Rd w' b s k' v' (T ++ L)) ∧ Below b w w' := by
  obtain ⟨i0, hi, hz0, hz1, hz2⟩ := info_parts info5
  obtain ⟨A, hA⟩ : ∃ A, A = escOf m k (s.data.toList.drop k) := ⟨_, rfl⟩
  rw [← hA]
  have hA2 : A = if (34 : UInt8) = m then some ([34], k + 1) else none := by
    rw [hA, drop_at s k hk, hc, escOf_cons, if_neg (by decide), if_neg (by decide), if_pos (by decide)]
  have c0 := hR.c0
  have c1 := hR.c1
  have f1 := hR.f 1
  have hlt2 := hR.lt
  have d1 : decide (s.size ≤ k) = false := decide_eq_false (by omega)
  have d2 : (k : Int) < s.size := by omega
  have d3 : (0 : Int) ≤ k := by omega
  have w1 : IntKind.i64.wrap ((k : Int) + 1) = (k : Int) + 1 := by rw [IntKind.wrap_i64]; omega
  have HM := Lib.hid (show ∀ i, Rd ((w.drewN i).setCell ⟨b, 1, none⟩ (.int .i64 ((k : Int) + 1))) b s (k + 1) v T from fun i => (hR.drewN i).move (k + 1) (by omega))
  have hBm := Lib.hid (show ∀ i, Below b w ((w.drewN i).setCell ⟨b, 1, none⟩ (.int .i64 ((k : Int) + 1))) from fun i => (below_drewN (Below.refl b w) i).setCell (p := ⟨b, 1, none⟩) (Nat.le_refl _) _)
  have hcn : (s[k].toNat : Int) = 34 := by rw [hc]; rfl
  have hcM := fun i => (HM.out i).c2
  have bm : ((34 : Int) == (m.toNat : Int)) = decide ((34 : UInt8) = m) := bytes_eq 34 m
  have HA2 := Lib.hid hA2
  clear hR hA hc hA2
  cases hm : decide ((34 : UInt8) = m)
  all_goals
    rw [hm] at bm
    have HD := Lib.hid hm
    clear hm
    go_enter Tryd.func78, Tryd.ntmps78
    go_upto_region 1 with fail
    go_quiet (fail)
    go_upto_region 3 with fail
    go_quiet (fail)
    go_wp2_with (at_builtin; refine wpList_append_own _ rfl _ _ 40 rfl (b + 1) 5 i0 (.int .u8 0) 1 1 Tryd.underlying40 hi hz0 hz1 hz2 rfl (by decide) _ _ _ rfl ((HM.out _).own.alloc _) ⟨_, 0, none⟩ 1 1 [.int .u8 34] rfl rfl ?_ ?_ ?_ ?_ ?_ ?_)
    try any_goals (first | rfl | (unfold maxLen; omega) | omega | exact one_new _ _ _ | exact one_at _ _ _ _ (by simp) | (intro u hu; simp at hu; subst hu; rfl; done) | (simp; omega))
    intro v' w1 hown' hgrow _
    obtain ⟨g1, g2, g3⟩ := ((HM.out _).alloc _).grew (L := [34]) hown' hgrow
    obtain ⟨ao, nn, cap, rfl⟩ := own_slice hown'
    have d5 : w1.frozen? ⟨b, 2, none⟩ = false := by unfold World.frozen?; simp only [g1]; rfl
    have d6 : w1.cell? ⟨b, 2, none⟩ = some v := by unfold World.cell?; simp only [g1]; rfl
    have G := Lib.hid (And.intro g2 (((hBm.out _).alloc (Nat.le_of_lt (by simpa using hlt2)) _).trans g3))
    clear g1 g2 g3 hown' hgrow
    go_wp2
    go_ret
    first
      | (have hz : A = some ([34], k + 1) := (by rw [HA2.out, if_pos (of_decide_eq_true HD.out)])
         exact ⟨by rw [hz]; rfl, (fun L k' h => by rw [hz] at h; cases h; exact ⟨_, G.out.1⟩), G.out.2⟩)
      | (have hz : A = none := (by rw [HA2.out, if_neg (of_decide_eq_false HD.out)])
         exact ⟨by rw [hz]; rfl, (fun L k' h => by rw [hz] at h; cases h), G.out.2⟩)
end Go.Proofs.YtoffjpgobhcipaaDoor
