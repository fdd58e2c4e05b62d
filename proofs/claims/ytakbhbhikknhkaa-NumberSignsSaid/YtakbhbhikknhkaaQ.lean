/-
  Layer 5: contracts of number.take, isRow and whole.
-/
import Derived.Test.YtakbhbhikknhkaaG
import Derived.Test.YtakbhbhikknhkaaP
import Derived.Test.YtakbhbhikknhkaaShelf
namespace Go.Proofs.Ytakbhbhikknhkaa
open Go.ChangeShapes Go.WideShapes Go.ChangeAt Go.RowKit

theorem indexByte_has (c : UInt8) : ∀ l : List UInt8, decide (Lib.indexByte l c < 0) = !l.contains c
  | [] => by simp [Lib.indexByte]
  | b :: l => by
    have ih := indexByte_has c l
    have hg := Lib.indexByte_ge l c
    unfold Lib.indexByte
    by_cases h : b = c
    · subst h; simp
    · have h1 : (b == c) = false := by simpa using h
      have h2 : (c == b) = false := by simpa using fun e => h e.symm
      rw [h1, List.contains_cons, h2, Bool.false_or, ← ih]
      by_cases h3 : Lib.indexByte l c = -1
      · rw [h3]; rfl
      · have h4 : (Lib.indexByte l c == -1) = false := by simpa using h3
        rw [h4]
        simp only [Bool.false_eq_true, if_false]
        rw [Bool.eq_iff_iff, decide_eq_true_eq, decide_eq_true_eq]
        omega
/-- is there at a place one of some bytes? -/
def hits (some' : List UInt8) (l : List UInt8) (k : Nat) : Bool := match l[k]? with | none => false | some c => some'.contains c

set_option maxHeartbeats 1000000 in
theorem take_any (s sm : ByteArray) (hs : s.size ≤ 4611686018427387904) (b q p d k B : Nat) (hB : B ≤ b) (w : World) (hC : Cur w b q p d s k) :
    Calls Try.prog 39 #[.string s, .pointer (some ⟨b, 0, none⟩), .string sm] w fun e w' => e = .returned (.bool (hits sm.data.toList s.data.toList k)) ∧ Cur w' b q p d s (if hits sm.data.toList s.data.toList k then k + 1 else k) ∧ Below B w w' := by
  have cb := cell_of hC.cb
  have fb := frozen_of hC.cb
  have hk := hC.hk
  have HC := Lib.hid hC
  clear hC
  by_cases hlt : k < s.size
  · have hh : hits sm.data.toList s.data.toList k = sm.data.toList.contains s[k] := by unfold hits; rw [at_of s k hlt]
    have hi := indexByte_has s[k] sm.data.toList
    have hix := fun w => Try.strings_IndexByte sm (s[k].toNat : Int) w
    rw [show ((s[k].toNat : Int)).toNat.toUInt8 = s[k] by simp] at hix
    obtain ⟨I, hI⟩ : ∃ I, I = Lib.indexByte sm.data.toList s[k] := ⟨_, rfl⟩
    rw [← hI] at hi hix
    rw [hh]
    cases hc : sm.data.toList.contains s[k] with
    | true =>
      rw [hc] at hi
      have hi2 : ¬ I < 0 := of_decide_eq_false hi
      have hC2 := Lib.hid (HC.out.move (k + 1) (by omega))
      have hB2 := Lib.hid ((Below.refl B w).setCell (p := ⟨b, 0, none⟩) hB (.int .i64 ((k : Int) + 1)))
      have d1 : ¬ (s.size : Int) ≤ k := by omega
      clear hh hi hI hc
      go_enter Try.func39, Try.ntmps39
      go_wp2_with (go_at_call 36; refine (hix _).mono ?_; rintro e w1 ⟨rfl, hw⟩; rw [hw]; clear hw w1)
      go_ret
      exact ⟨rfl, hC2.out, hB2.out⟩
    | false =>
      rw [hc] at hi
      have hi2 : I < 0 := of_decide_eq_true hi
      have d1 : ¬ (s.size : Int) ≤ k := by omega
      clear hh hi hI hc
      go_enter Try.func39, Try.ntmps39
      go_wp2_with (go_at_call 36; refine (hix _).mono ?_; rintro e w1 ⟨rfl, hw⟩; rw [hw]; clear hw w1)
      go_ret
      exact ⟨rfl, HC.out, Below.refl _ _⟩
  · have hh : hits sm.data.toList s.data.toList k = false := by unfold hits; rw [List.getElem?_eq_none (by simp; omega)]
    have d1 : (s.size : Int) ≤ k := by omega
    rw [hh]
    clear hh
    go_enter Try.func39, Try.ntmps39
    go_wp2
    go_ret
    exact ⟨rfl, HC.out, Below.refl _ _⟩

theorem rows_ex (s : ByteArray) (b k : Nat) (hk : k ≤ s.size) (w : World) (hb : w.heap[b]? = some (.cells #[.int .i64 k] 3 (0, 0))) :
    Calls Try.prog 28 #[.string s, .pointer (some ⟨b, 0, none⟩)] w fun e w' => ∃ q p d : Nat, e = .returned (.func (.func 43) #[] #[.pointer (some ⟨d, 0, none⟩), .pointer (some ⟨p, 0, none⟩), .pointer (some ⟨q, 0, none⟩)]) ∧
      Cur w' b q p d s k ∧ Below w.heap.size w w' :=
  (rows_any s b k hk w hb).mono fun _ _ h => ⟨_, _, _, h⟩
/-- is a text a row as the program has it? -/
def isRow? (base : Nat) (l : List UInt8) : Bool := digAt base l 0 && decide (rowEnd base l 0 = l.length)
set_option maxHeartbeats 1000000 in
theorem isRow_any (s : ByteArray) (hs : s.size ≤ 4611686018427387904) (base : Nat) (w : World) :
    Calls Try.prog 17 #[.string s, .int .i64 base] w fun e w' => e = .returned (.bool (isRow? base s.data.toList)) ∧ Below w.heap.size w w' := by
  have hlen : s.data.toList.length = s.size := by simp
  have hnew : (w.alloc (.cells #[.int .i64 0] 3)).heap[w.heap.size]? = some (.cells #[.int .i64 ((0 : Nat) : Int)] 3 (0, 0)) := by
    show (w.heap.push _)[w.heap.size]? = _
    simp
  have hA : Below w.heap.size w (w.alloc (.cells #[.int .i64 0] 3)) := (Below.refl _ w).alloc (Nat.le_refl _) _
  have hrows := rows_ex s w.heap.size 0 (Nat.zero_le _) _ hnew
  have HS := Lib.hid (hA.size)
  obtain ⟨v, hv⟩ : ∃ v, v = isRow? base s.data.toList := ⟨_, rfl⟩
  rw [← hv]
  unfold isRow? at hv
  rw [hlen] at hv
  clear hlen
  cases hd : digAt base s.data.toList 0 with
  | false =>
    rw [hd, Bool.false_and] at hv
    subst hv
    go_enter Try.func17, Try.ntmps17
    go_wp2_with (first
      | (go_at_call 28; refine hrows.mono ?_; rintro e w1 ⟨q, p, d, rfl, hC, hB⟩; replace hA := hA.trans (hB.mono HS.out); clear hB)
      | (go_at_call 43; refine (row_c s hs base _ _ _ _ 0 w.heap.size (Nat.le_refl _) _ hC).mono ?_; rintro e w2 ⟨he, hC2, hB⟩; rw [hd] at he; subst he; replace hA := hA.trans hB; clear hB hC))
    go_ret
    exact ⟨rfl, hA⟩
  | true =>
    rw [hd, Bool.true_and] at hv
    obtain ⟨E, hE⟩ : ∃ E, E = rowEnd base s.data.toList 0 := ⟨_, rfl⟩
    rw [← hE] at hv
    have HE := Lib.hid hE
    have HV := Lib.hid hv
    clear hE hv
    go_enter Try.func17, Try.ntmps17
    go_wp2_with (first
      | (go_at_call 28; refine hrows.mono ?_; rintro e w1 ⟨q, p, d, rfl, hC, hB⟩; replace hA := hA.trans (hB.mono HS.out); clear hB)
      | (go_at_call 43; refine (row_c s hs base _ _ _ _ 0 w.heap.size (Nat.le_refl _) _ hC).mono ?_; rintro e w2 ⟨he, hC2, hB⟩; rw [hd] at he; subst he; replace hA := hA.trans hB; rw [← HE.out] at hC2; have c2 := cell_of hC2.cb; have hEs := hC2.hk; clear hB hC hC2))
    go_ret
    exact ⟨ret_bool (by rw [HV.out, Bool.eq_iff_iff]; simp; omega), hA⟩
end Go.Proofs.Ytakbhbhikknhkaa
