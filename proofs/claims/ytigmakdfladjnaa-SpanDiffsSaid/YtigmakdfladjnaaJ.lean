/-
  Layer 3: contract of the document's Edited.
-/
import Derived.Test.YtigmakdfladjnaaI
namespace Go.Proofs.Ytigmakdfladjnaa
open Go.ChangeShapes Go.WideShapes Go.ChangeAt Go.RowKit

/-- one edit put, from behind -/
theorem textOf_put (s c tx : List UInt8) (es : List Ed) (k L U : Nat) (x : Ed) (hx : es[k]? = some x) (hl : x.lo.toNat = L) (hu : x.hi.toNat = U) (htx : x.tx.data.toList = tx) (hLU : L ≤ U) (hU : U ≤ s.length)
    (hc : c = s.take U ++ textOf s U (es.drop (k + 1))) (X : Nat) (hX : X ≤ L) :
    c.take L ++ tx ++ c.drop U = s.take X ++ textOf s X (es.drop k) := by
  obtain ⟨hk', he'⟩ := List.getElem?_eq_some_iff.mp hx
  have h1 : textOf s X (es.drop k) = (s.drop X).take (L - X) ++ tx ++ textOf s U (es.drop (k + 1)) := by
    rw [List.drop_eq_getElem_cons hk', he', ← hl, ← hu, ← htx]; rfl
  have h2 : c.take L = s.take L := by
    rw [hc, List.take_append_of_le_length (by rw [List.length_take]; omega), List.take_take, Nat.min_eq_left hLU]
  have h3 : c.drop U = textOf s U (es.drop (k + 1)) := by
    rw [hc, List.drop_left' (by rw [List.length_take]; omega)]
  have h4 : s.take X ++ (s.drop X).take (L - X) = s.take L := by
    have h5 := List.take_add (l := s) (i := X) (j := L - X)
    rw [show X + (L - X) = L by omega] at h5
    exact h5.symm
  rw [h1, h2, h3, ← h4]
  simp only [List.append_assoc]
theorem slice_head (s : ByteArray) (b : Nat) (h2 : b ≤ s.size) (w : World) :
    (Instr.slice 9 (.string s) none (some (.int .i64 (b : Int))) none).run Try.prog w = .ok (.string (s.extract 0 b)) w := by
  rw [run_slice_string_h (ht := Try.underlying9) (kh := .i64) (h := (b : Int)) (h0 := by omega) (h2 := by omega)]
  simp
theorem puts_le (l : List Ed) : ∀ k, puts (l.drop k) ≤ puts l := by
  induction l with
  | nil => intro k; simp
  | cons x l ih =>
    intro k
    cases k with
    | zero => simp
    | succ k => rw [List.drop_succ_cons]; exact Nat.le_trans (ih k) (show puts l ≤ x.tx.size + puts l by omega)
set_option maxRecDepth 100000 in
set_option maxHeartbeats 4000000 in
theorem redited_long (s : ByteArray) (w : World) (a : Option Addr) (n cap : Nat) (es : List Ed) (he : Edits w a n es) (hn : n ≤ maxLen) (htx : ∀ x ∈ es, x.tx.size ≤ 140737488351232) (hs : s.size ≤ 65536) (hl : 262144 < s.size + puts es) :
    Calls Try.prog 29 #[.string s, .slice a n cap] w fun e w' => e = .returned (.tuple #[.string ⟨#[]⟩, .bool false]) ∧ Below w.heap.size w w' := by
  have HL := Lib.hid he.1
  unfold maxLen at hn
  go_enter Try.func29, Try.ntmps29
  go_wp2
  go_loopw [6, 7] (fun t i wr => ∃ (k M : Nat), k ≤ n ∧ i = .int .i64 k ∧ t = .int .i64 M ∧ M ≤ 262144 ∧ Below w.heap.size w wr ∧ M + puts (es.drop k) = s.size + puts es) (fun _ i _ => n - (intOf i).toNat)
  case atStart => exact ⟨0, s.size, Nat.zero_le _, rfl, rfl, by omega, Below.refl _ _, by simp⟩
  case round =>
    obtain ⟨k, M, hk, rfl, rfl, hM, hB, hMp⟩ := hrel
    by_cases hlt : k < n
    · obtain ⟨⟨lo, hi, tx⟩, hxk⟩ : ∃ x, es[k]? = some x := ⟨es[k]'(by have := HL.out; omega), List.getElem?_eq_getElem (by have := HL.out; omega)⟩
      have her := edits_below he hB
      obtain ⟨g', off, rfl, c0, c1, c2⟩ := her.2 k _ hxk
      dsimp only at c0 c1 c2
      have hpa := puts_at es k _ hxk
      dsimp only at hpa
      have htk := htx _ (List.mem_of_getElem? hxk)
      dsimp only at htk
      have i1 : (k : Int) < (n : Int) := by omega
      have w1 : IntKind.i64.wrap ((M : Int) + (tx.size : Int)) = ((M + tx.size : Nat) : Int) := by rw [IntKind.wrap_i64]; omega
      clear hxk her htk
      by_cases h3 : 262144 < M + tx.size
      · have h4 : (262144 : Int) < ((M + tx.size : Nat) : Int) := by omega
        have d4 : decide ((262144 : Int) < ((M + tx.size : Nat) : Int)) = true := by rw [decide_eq_true_eq]; exact h4
        go_wp2
        go_ret2
        exact ⟨rfl, hB⟩
      · have d4 : decide ((262144 : Int) < ((M + tx.size : Nat) : Int)) = false := by rw [decide_eq_false_iff_not]; omega
        go_wp2
        go_roundw
        case rel => exact ⟨k + 1, M + tx.size, by omega, by go_num, rfl, by omega, hB, by omega⟩
        case measure => simp [intOf]; omega
    · exfalso
      have : es.drop k = [] := List.drop_of_length_le (by have := HL.out; omega)
      rw [this, show puts [] = 0 from rfl] at hMp
      omega
theorem stands_all (n : Int) : ∀ (l : List Ed) (e : Int) (k : Nat) (x : Ed), stands n e l = true → l[k]? = some x → e ≤ x.lo ∧ x.lo ≤ x.hi ∧ x.hi ≤ n ∧ stands n x.hi (l.drop (k + 1)) = true
  | [], _, _, _, _, h => by simp at h
  | y :: l, e, 0, x, hs, h => by
    have h0 := stands_at n e (y :: l) 0 x h
    rw [List.drop_zero, hs] at h0
    have h1 := h0.symm
    rw [Bool.and_eq_true, decide_eq_true_eq] at h1
    exact ⟨h1.1.1, h1.1.2.1, h1.1.2.2, h1.2⟩
  | y :: l, e, k + 1, x, hs, h => by
    have h0 := stands_at n e (y :: l) 0 y rfl
    rw [List.drop_zero, hs] at h0
    have h1 := h0.symm
    rw [Bool.and_eq_true, decide_eq_true_eq] at h1
    have h2 := stands_all n l y.hi k x h1.2 (by simpa using h)
    exact ⟨by omega, h2.2.1, h2.2.2.1, by simpa using h2.2.2.2⟩
theorem stands_low (n e : Int) (l : List Ed) (k : Nat) (x : Ed) (h : l[k]? = some x) (hs : stands n e (l.drop k) = true) : e ≤ x.lo := by
  have h0 := stands_at n e l k x h
  rw [hs] at h0
  have h1 := h0.symm
  rw [Bool.and_eq_true, decide_eq_true_eq] at h1
  exact h1.1.1
set_option maxRecDepth 100000 in
set_option maxHeartbeats 4000000 in
theorem redited_ok (s : ByteArray) (w : World) (a : Option Addr) (n cap : Nat) (es : List Ed) (he : Edits w a n es) (hn : n ≤ maxLen) (hs : s.size ≤ 65536) (hst : stands s.size 0 es = true) (hl : s.size + puts es ≤ 262144) :
    Calls Try.prog 29 #[.string s, .slice a n cap] w fun e w' => e = .returned (.tuple #[.string ⟨(textOf s.data.toList 0 es).toArray⟩, .bool (decide ((textOf s.data.toList 0 es).length ≤ 65536))]) ∧ Below w.heap.size w w' := by
  have HL := Lib.hid he.1
  have HST := Lib.hid hst
  unfold maxLen at hn
  clear hst
  go_enter Try.func29, Try.ntmps29
  go_wp2
  go_loopw [6, 7] (fun t i wr => ∃ (k M : Nat), k ≤ n ∧ i = .int .i64 k ∧ t = .int .i64 M ∧ M ≤ 262144 ∧ Below w.heap.size w wr ∧ M + puts (es.drop k) = s.size + puts es) (fun _ i _ => n - (intOf i).toNat)
  case atStart => exact ⟨0, s.size, Nat.zero_le _, rfl, rfl, by omega, Below.refl _ _, by simp⟩
  case round =>
    obtain ⟨k, M, hk, rfl, rfl, hM, hB, hMp⟩ := hrel
    by_cases hlt : k < n
    · obtain ⟨⟨lo, hi, tx⟩, hxk⟩ : ∃ x, es[k]? = some x := ⟨es[k]'(by have := HL.out; omega), List.getElem?_eq_getElem (by have := HL.out; omega)⟩
      have her := edits_below he hB
      obtain ⟨g', off, rfl, c0, c1, c2⟩ := her.2 k _ hxk
      dsimp only at c0 c1 c2
      have hpa := puts_at es k _ hxk
      dsimp only at hpa
      have i1 : (k : Int) < (n : Int) := by omega
      have w1 : IntKind.i64.wrap ((M : Int) + (tx.size : Int)) = ((M + tx.size : Nat) : Int) := by rw [IntKind.wrap_i64]; omega
      clear hxk her
      have d4 : decide ((262144 : Int) < ((M + tx.size : Nat) : Int)) = false := by rw [decide_eq_false_iff_not]; omega
      go_wp2
      go_roundw
      case rel => exact ⟨k + 1, M + tx.size, by omega, by go_num, rfl, by omega, hB, by omega⟩
      case measure => simp [intOf]; omega
    · have HP := Lib.hid hl
      clear hMp hl
      have w1 : IntKind.i64.wrap ((n : Int) - 1) = (n : Int) - 1 := by rw [IntKind.wrap_i64]; omega
      go_wp2
      go_loopw [0, 8] (fun c i wr => ∃ (j : Nat) (C : ByteArray), j ≤ n ∧ i = .int .i64 ((j : Int) - 1) ∧ c = .string C ∧ Below w.heap.size w wr ∧ C.size ≤ s.size + puts (es.drop j) ∧ Hid (∀ X : Nat, X ≤ s.size → stands s.size X (es.drop j) = true → C.data.toList = s.data.toList.take X ++ textOf s.data.toList X (es.drop j))) (fun _ i _ => (intOf i + 1).toNat)
      case atStart =>
        refine ⟨n, s, Nat.le_refl _, rfl, rfl, hB, Nat.le_add_right _ _, Lib.hid fun X hX _ => ?_⟩
        rw [List.drop_of_length_le (by have := HL.out; omega)]
        exact (List.take_append_drop X _).symm
      case round =>
        obtain ⟨j, C, hj, rfl, rfl, hB, hCs, HC⟩ := hrel
        cases j with
        | zero =>
          have HY := Lib.hid (show C.data.toList = textOf s.data.toList 0 es by
            have := HC.out 0 (by omega) (by rw [List.drop_zero]; exact HST.out)
            simpa using this)
          have hC : C = ⟨(textOf s.data.toList 0 es).toArray⟩ := by
            rw [← HY.out]
          have hz : (C.size : Int) = ((textOf s.data.toList 0 es).length : Int) := by
            rw [← HY.out]; rfl
          have HZ := Lib.hid (And.intro hC hz)
          clear hC hz
          go_wp2
          go_ret2
          refine ⟨?_, hB⟩
          rw [← HZ.out.1]
          have : decide ((C.size : Int) ≤ 65536) = decide ((textOf s.data.toList 0 es).length ≤ 65536) := by
            rw [HZ.out.2]; apply decide_eq_decide.mpr; omega
          rw [← this]
          rfl
        | succ k =>
          obtain ⟨⟨lo, hi, tx⟩, hxk⟩ : ∃ x, es[k]? = some x := ⟨es[k]'(by have := HL.out; omega), List.getElem?_eq_getElem (by have := HL.out; omega)⟩
          obtain ⟨h1, h2, h3, h4⟩ := stands_all s.size es 0 k _ HST.out hxk
          dsimp only at h1 h2 h3 h4
          obtain ⟨L, rfl⟩ : ∃ L : Nat, lo = (L : Int) := ⟨lo.toNat, by omega⟩
          obtain ⟨U, rfl⟩ : ∃ U : Nat, hi = (U : Int) := ⟨hi.toNat, by omega⟩
          have hCU := HC.out U (by omega) h4
          have HN := Lib.hid (show ∀ X : Nat, X ≤ s.size → stands s.size X (es.drop k) = true → C.data.toList.take L ++ tx.data.toList ++ C.data.toList.drop U = s.data.toList.take X ++ textOf s.data.toList X (es.drop k) from
            fun X _ hX2 => textOf_put s.data.toList C.data.toList tx.data.toList es k L U _ hxk rfl rfl rfl (by omega) (by have h6 : s.data.toList.length = s.size := rfl; omega) hCU X (by have := stands_low _ _ es k _ hxk hX2; dsimp only at this; omega))
          have hUC : U ≤ C.size := by
            have h5 : C.data.toList.length = C.size := rfl
            have h6 : s.data.toList.length = s.size := rfl
            rw [hCU, List.length_append, List.length_take] at h5
            omega
          have hLC : L ≤ C.size := by omega
          have her := edits_below he hB
          obtain ⟨g', off, rfl, c0, c1, c2⟩ := her.2 k _ hxk
          dsimp only at c0 c1 c2
          have e1 : ((k + 1 : Nat) : Int) - 1 = (k : Int) := by omega
          have i0 : (0 : Int) ≤ (k : Int) := by omega
          have i1 : (k : Int) < (n : Int) := by omega
          have w2 : IntKind.i64.wrap ((k : Int) - 1) = (k : Int) - 1 := by rw [IntKind.wrap_i64]; omega
          have hpa := puts_at es k _ hxk
          dsimp only at hpa
          have hpl := puts_le es k
          have hpt := HP.out
          have z1 : (C.extract 0 L).size = L := by rw [ByteArray.size_extract]; omega
          have z2 : (C.extract U C.size).size = C.size - U := by rw [ByteArray.size_extract]; omega
          have z3 : (C.extract 0 L ++ tx).size = L + tx.size := by rw [ByteArray.size_append, z1]
          have z4 : (C.extract 0 L ++ tx ++ C.extract U C.size).size = L + tx.size + (C.size - U) := by rw [ByteArray.size_append, z3, z2]
          have ha1 := fun w => run_string_add_sum (P := Try.prog) w (C.extract 0 L) tx (by rw [z1]; omega)
          have ha2 := fun w => run_string_add_sum (P := Try.prog) w (C.extract 0 L ++ tx) (C.extract U C.size) (by rw [z2, z3]; omega)
          have hCs2 : (C.extract 0 L ++ tx ++ C.extract U C.size).size ≤ s.size + puts (es.drop k) := by omega
          have HCS2 := Lib.hid hCs2
          clear hpa hpl hpt z1 z2 z3 z4 hCs2 hCs
          have hsl1 := slice_head C L hLC
          have hsl2 := slice_end C U hUC
          rw [e1]
          clear hxk her hCU h4 e1 HC w1
          go_wp2
          go_quiet (fail)
          go_wp2
          go_roundw
          case rel =>
            refine ⟨k, _, by omega, by go_num, rfl, below_drewN hB _, HCS2.out, Lib.hid ?_⟩
            intro X hX1 hX2
            rw [← HN.out X hX1 hX2]
            rw [ByteArray.data_append, ByteArray.data_append, Array.toList_append, Array.toList_append, extract_take, extract_take, List.drop_zero, Nat.sub_zero]
            rw [List.take_of_length_le (l := List.drop U C.data.toList) (by rw [List.length_drop]; exact Nat.le_refl _)]
          case measure => simp [intOf]
/-- what the document's Edited answers -/
def edited' (s : ByteArray) (es : List Ed) : List UInt8 × Bool := if 262144 < s.size + puts es then ([], false) else (textOf s.data.toList 0 es, decide ((textOf s.data.toList 0 es).length ≤ 65536))
theorem redited_any (s : ByteArray) (w : World) (a : Option Addr) (n cap : Nat) (es : List Ed) (he : Edits w a n es) (hn : n ≤ maxLen) (htx : ∀ x ∈ es, x.tx.size ≤ 140737488351232) (hs : s.size ≤ 65536) (hst : stands s.size 0 es = true) :
    Calls Try.prog 29 #[.string s, .slice a n cap] w fun e w' => e = .returned (.tuple #[.string ⟨(edited' s es).1.toArray⟩, .bool (edited' s es).2]) ∧ Below w.heap.size w w' := by
  by_cases h : 262144 < s.size + puts es
  · have : edited' s es = ([], false) := by unfold edited'; rw [if_pos h]
    rw [this]
    exact redited_long s w a n cap es he hn htx hs h
  · have : edited' s es = (textOf s.data.toList 0 es, decide ((textOf s.data.toList 0 es).length ≤ 65536)) := by unfold edited'; rw [if_neg h]
    rw [this]
    exact redited_ok s w a n cap es he hn hs hst (by omega)
end Go.Proofs.Ytigmakdfladjnaa
