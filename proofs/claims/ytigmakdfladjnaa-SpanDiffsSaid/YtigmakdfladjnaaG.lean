/-
  Layer 3: contract of span.Apply.
-/
import Derived.Test.YtigmakdfladjnaaF
namespace Go.Proofs.Ytigmakdfladjnaa
open Go.ChangeShapes Go.WideShapes Go.ChangeAt Go.RowKit

/-- how many bytes edits put -/
def puts : List Ed → Nat
  | [] => 0
  | x :: l => x.tx.size + puts l
theorem puts_at (l : List Ed) (k : Nat) (x : Ed) (h : l[k]? = some x) : puts (l.drop k) = x.tx.size + puts (l.drop (k + 1)) := by
  obtain ⟨hk, he⟩ := List.getElem?_eq_some_iff.mp h
  rw [List.drop_eq_getElem_cons hk, he]; rfl
theorem textOf_le (s : List UInt8) : ∀ (es : List Ed) (r : Nat), (textOf s r es).length ≤ s.length + puts es + es.length * s.length
  | [], r => by simp [textOf, puts]
  | x :: l, r => by
    have h := textOf_le s l x.hi.toNat
    have h7 : x.tx.data.toList.length = x.tx.size := rfl
    simp only [textOf, puts, List.length_append, List.length_take, List.length_drop, List.length_cons, h7]
    rw [Nat.add_mul]
    omega
/-- what Apply answers: the text and its fault -/
def applied (s : ByteArray) (es : List Ed) : List UInt8 × Int :=
  if refused s es = 0 then (if 65536 < (textOf s.data.toList 0 es).length then ([], 2) else (textOf s.data.toList 0 es, 0)) else ([], refused s es)
theorem refused_ok {s : ByteArray} {es : List Ed} (h : refused s es = 0) : s.size ≤ 65536 ∧ stands s.size 0 es = true := by
  unfold refused checked' at h
  split at h
  · omega
  · split at h
    · omega
    · split at h
      · exact ⟨by omega, by assumption⟩
      · omega
/-- how many bytes edits take -/
def takes : List Ed → Nat
  | [] => 0
  | x :: l => (x.hi.toNat - x.lo.toNat) + takes l
theorem takes_at (l : List Ed) (k : Nat) (x : Ed) (h : l[k]? = some x) : takes (l.drop k) = (x.hi.toNat - x.lo.toNat) + takes (l.drop (k + 1)) := by
  obtain ⟨hk, he⟩ := List.getElem?_eq_some_iff.mp h
  rw [List.drop_eq_getElem_cons hk, he]; rfl
theorem textOf_takes (s : List UInt8) : ∀ (es : List Ed) (r : Nat), r ≤ s.length → stands s.length r es = true → takes es ≤ s.length - r ∧ (textOf s r es).length + takes es = (s.length - r) + puts es
  | [], r, hr, _ => by simp [textOf, puts, takes]
  | x :: l, r, hr, h => by
    unfold stands at h
    rw [Bool.and_eq_true, decide_eq_true_eq] at h
    obtain ⟨⟨h1, h2, h3⟩, h4⟩ := h
    obtain ⟨U, hU⟩ : ∃ U : Nat, x.hi = (U : Int) := ⟨x.hi.toNat, by omega⟩
    obtain ⟨L, hL⟩ : ∃ L : Nat, x.lo = (L : Int) := ⟨x.lo.toNat, by omega⟩
    rw [hU] at h4
    obtain ⟨i1, i2⟩ := textOf_takes s l U (by omega) h4
    have h7 : x.tx.data.toList.length = x.tx.size := rfl
    have e1 : x.hi.toNat = U := by omega
    have e2 : x.lo.toNat = L := by omega
    simp only [textOf, puts, takes, List.length_append, List.length_take, List.length_drop, h7, e1, e2]
    omega
/-- what span.length answers -/
theorem length_any (s : ByteArray) (w : World) (a : Option Addr) (n cap : Nat) (es : List Ed) (he : Edits w a n es) (hn : n ≤ maxLen) (hs : s.size ≤ 65536) (hst : stands s.size 0 es = true) (N : Nat) (hN : N = (textOf s.data.toList 0 es).length) :
    Calls Try.prog 27 #[.int .i64 s.size, .slice a n cap] w fun e w' => e = .returned (.tuple (if 65536 < N then #[.int .i64 0, .bool false] else #[.int .i64 N, .bool true])) ∧ Below w.heap.size w w' := by
  have HL := Lib.hid he.1
  have HT := textOf_takes s.data.toList es 0 (Nat.zero_le _) hst
  have h6 : s.data.toList.length = s.size := rfl
  rw [h6, Nat.sub_zero, ← hN] at HT
  obtain ⟨T, hT⟩ : ∃ T, T = takes es := ⟨_, rfl⟩
  obtain ⟨P, hP⟩ : ∃ P, P = puts es := ⟨_, rfl⟩
  rw [← hT, ← hP] at HT
  obtain ⟨ht, hNT⟩ := HT
  have HTP := Lib.hid (And.intro hT hP)
  have HST := Lib.hid hst
  clear hN h6 hst hT hP
  unfold maxLen at hn
  go_enter Try.func27, Try.ntmps27
  go_wp2
  go_loopw [0, 12] (fun t i wr => ∃ (k M : Nat), k ≤ n ∧ i = .int .i64 k ∧ t = .int .i64 M ∧ M ≤ s.size ∧ Below w.heap.size w wr ∧ Hid (M + T = s.size + takes (es.drop k)) ∧ Hid (∃ R : Nat, stands s.size R (es.drop k) = true)) (fun _ i _ => n - (intOf i).toNat)
  case atStart => exact ⟨0, s.size, Nat.zero_le _, rfl, rfl, Nat.le_refl _, Below.refl _ _, Lib.hid (by rw [HTP.out.1]; simp), Lib.hid ⟨0, by simpa using HST.out⟩⟩
  case round =>
    obtain ⟨k, M, hk, rfl, rfl, hM, hB, hMT, HS⟩ := hrel
    by_cases hlt : k < n
    · obtain ⟨⟨lo, hi, tx⟩, hxk⟩ : ∃ x, es[k]? = some x := ⟨es[k]'(by have := HL.out; omega), List.getElem?_eq_getElem (by have := HL.out; omega)⟩
      obtain ⟨R, hR⟩ := HS.out
      have hsa := stands_at s.size R es k _ hxk
      rw [hR] at hsa
      have hsb := hsa.symm
      rw [Bool.and_eq_true, decide_eq_true_eq] at hsb
      dsimp only at hsb
      obtain ⟨⟨h1, h2, h3⟩, h4⟩ := hsb
      obtain ⟨L, rfl⟩ : ∃ L : Nat, lo = (L : Int) := ⟨lo.toNat, by omega⟩
      obtain ⟨U, rfl⟩ : ∃ U : Nat, hi = (U : Int) := ⟨hi.toNat, by omega⟩
      have her := edits_below he hB
      obtain ⟨g', off, rfl, c0, c1, c2⟩ := her.2 k _ hxk
      dsimp only at c0 c1 c2
      have hta := takes_at es k _ hxk
      dsimp only at hta
      have hs2 := hB.size
      have hMU : U - L ≤ M := by have := hMT.out; have : ((U : Int)).toNat - ((L : Int)).toNat = U - L := by omega
                                 omega
      have hw1 : IntKind.i64.wrap ((U : Int) - (L : Int)) = ((U - L : Nat) : Int) := by rw [IntKind.wrap_i64]; omega
      have hw2 : IntKind.i64.wrap ((M : Int) - ((U - L : Nat) : Int)) = ((M - (U - L) : Nat) : Int) := by rw [IntKind.wrap_i64]; omega
      have hM2 : M - (U - L) ≤ s.size := by omega
      have hX : Hid (M - (U - L) + T = s.size + takes (es.drop (k + 1))) := Lib.hid (by
        have := hMT.out
        have : ((U : Int)).toNat - ((L : Int)).toNat = U - L := by omega
        omega)
      have hS' : Hid (∃ R : Nat, stands s.size R (es.drop (k + 1)) = true) := Lib.hid ⟨_, h4⟩
      clear hsa h1 h2 h3 h4 hxk her hta hR hMU hMT HS
      go_wp2
      go_roundw
      case rel => exact ⟨k + 1, M - (U - L), by omega, by go_num, rfl, hM2, hB.alloc hs2 _, hX, hS'⟩
      case measure => simp [intOf]; omega
    · have hkn : k = n := by omega
      have hdr : es.drop k = [] := List.drop_of_length_le (by have := HL.out; omega)
      have hMP : M + P = N := by
        have e1 := hMT.out
        rw [hdr, show takes [] = 0 from rfl] at e1
        omega
      have her := edits_below he hB
      have hMP := Lib.hid hMP
      clear hdr hMT HS
      go_wp2
      go_loopw [0, 26] (fun t i wr => ∃ (j m : Nat), j ≤ n ∧ i = .int .i64 j ∧ t = .int .i64 m ∧ m ≤ 65536 ∧ Below w.heap.size w wr ∧ Hid (m + puts (es.drop j) = N)) (fun _ i _ => n - (intOf i).toNat)
      case atStart => exact ⟨0, M, Nat.zero_le _, rfl, rfl, by omega, hB, Lib.hid (by have := hMP.out; rw [HTP.out.2] at this; simpa using this)⟩
      case round =>
        obtain ⟨j, m, hj, rfl, rfl, hm, hB2, hmN⟩ := hrel
        by_cases hlt : j < n
        · obtain ⟨⟨lo, hi, tx⟩, hxk⟩ : ∃ x, es[j]? = some x := ⟨es[j]'(by have := HL.out; omega), List.getElem?_eq_getElem (by have := HL.out; omega)⟩
          have her := edits_below he hB2
          obtain ⟨g', off, rfl, c0, c1, c2⟩ := her.2 j _ hxk
          dsimp only at c0 c1 c2
          have hpa := puts_at es j _ hxk
          dsimp only at hpa
          have hs2 := hB2.size
          have hw1 : IntKind.i64.wrap (65536 - (m : Int)) = ((65536 - m : Nat) : Int) := by rw [IntKind.wrap_i64]; omega
          by_cases hbig : 65536 - m < tx.size
          · have hbig' : ((65536 - m : Nat) : Int) < (tx.size : Int) := by omega
            have hN : 65536 < N := by have := hmN.out; omega
            clear hxk her hpa
            go_wp2
            go_ret2
            try rw [if_pos hN]
            exact ⟨rfl, hB2.alloc hs2 _⟩
          · have hbig' : ¬ ((65536 - m : Nat) : Int) < (tx.size : Int) := by omega
            have hw2 : IntKind.i64.wrap ((m : Int) + (tx.size : Int)) = ((m + tx.size : Nat) : Int) := by rw [IntKind.wrap_i64]; omega
            have hm2 : m + tx.size ≤ 65536 := by omega
            have hX : Hid (m + tx.size + puts (es.drop (j + 1)) = N) := Lib.hid (by have := hmN.out; omega)
            clear hxk her hpa hbig hmN
            go_wp2
            go_roundw
            case rel => exact ⟨j + 1, m + tx.size, by omega, by go_num, rfl, hm2, hB2.alloc hs2 _, hX⟩
            case measure => simp [intOf]; omega
        · have hdr : es.drop j = [] := List.drop_of_length_le (by have := HL.out; omega)
          have hmn : m = N := by
            have e1 := hmN.out
            rw [hdr, show puts [] = 0 from rfl] at e1
            omega
          subst hmn
          clear hdr
          go_wp2
          go_ret2
          try rw [if_neg (by omega)]
          exact ⟨rfl, hB2⟩
set_option maxRecDepth 100000 in
set_option maxHeartbeats 4000000 in
theorem apply_ok (s : ByteArray) (w : World) (a : Option Addr) (n cap : Nat) (es : List Ed) (he : Edits w a n es) (hn : n ≤ maxLen) (hr : refused s es = 0) :
    Calls Try.prog 14 #[.string s, .slice a n cap] w fun e w' => e = .returned (.tuple #[.string ⟨(applied s es).1.toArray⟩, .int .i64 (applied s es).2]) ∧ Below w.heap.size w w' := by
  obtain ⟨hs, hst⟩ := refused_ok hr
  have hs' : s.size ≤ maxLen := by unfold maxLen; omega
  have hlc := fun w (he : Edits w a n es) => lcheck_any s w a n cap es he hn hs'
  rw [hr] at hlc
  obtain ⟨N, hN⟩ : ∃ N, N = (textOf s.data.toList 0 es).length := ⟨_, rfl⟩
  have hlen := fun w (he : Edits w a n es) => length_any s w a n cap es he hn hs hst N hN
  have happ : applied s es = if 65536 < N then ([], 2) else (textOf s.data.toList 0 es, 0) := by unfold applied; rw [if_pos hr, hN]
  have hA : Below w.heap.size w w := Below.refl _ _
  by_cases hbig : 65536 < N
  · have hap : applied s es = ([], 2) := by rw [happ, if_pos hbig]
    rw [hap]
    simp only [if_pos hbig] at hlen
    clear happ hap hN hst hr hs'
    unfold maxLen at hn
    go_enter Try.func14, Try.ntmps14
    go_wp2_with (first
      | (go_at_call 26; refine (hlc _ he).mono ?_; rintro e w1 ⟨rfl, hB⟩; replace he := edits_below he hB; replace hA := below_chain hA hB; clear hB)
      | (go_at_call 27; refine (hlen _ he).mono ?_; rintro e w2 ⟨rfl, hB⟩; replace he := edits_below he hB; replace hA := below_chain hA hB; clear hB))
    go_ret2
    exact ⟨rfl, hA⟩
  · have hap : applied s es = (textOf s.data.toList 0 es, 0) := by rw [happ, if_neg hbig]
    have hed := fun w (he : Edits w a n es) => edited_any s w a n cap es he hn N (by omega) hN.symm hst hs
    rw [hap]
    simp only [if_neg hbig] at hlen
    clear happ hap hN hst hr hs'
    unfold maxLen at hn
    go_enter Try.func14, Try.ntmps14
    go_wp2_with (first
      | (go_at_call 26; refine (hlc _ he).mono ?_; rintro e w1 ⟨rfl, hB⟩; replace he := edits_below he hB; replace hA := below_chain hA hB; clear hB)
      | (go_at_call 27; refine (hlen _ he).mono ?_; rintro e w2 ⟨rfl, hB⟩; replace he := edits_below he hB; replace hA := below_chain hA hB; clear hB)
      | (go_at_call 28; refine (hed _ he).mono ?_; rintro e w3 ⟨rfl, hB⟩; replace hA := below_chain hA hB; clear hB))
    go_ret2
    exact ⟨rfl, hA⟩
theorem apply_bad (s : ByteArray) (w : World) (a : Option Addr) (n cap : Nat) (es : List Ed) (he : Edits w a n es) (hn : n ≤ maxLen) (hs : s.size ≤ maxLen) (hr : refused s es ≠ 0) :
    Calls Try.prog 14 #[.string s, .slice a n cap] w fun e w' => e = .returned (.tuple #[.string ⟨(applied s es).1.toArray⟩, .int .i64 (applied s es).2]) ∧ Below w.heap.size w w' := by
  have hlc := lcheck_any s w a n cap es he hn hs
  have hap : applied s es = ([], refused s es) := by unfold applied; rw [if_neg hr]
  obtain ⟨r, hrr⟩ : ∃ r, r = refused s es := ⟨_, rfl⟩
  rw [← hrr] at hlc hap hr
  clear hrr
  unfold maxLen at hn
  go_enter Try.func14, Try.ntmps14
  go_wp2_with (first
    | (go_at_call 26; refine hlc.mono ?_; rintro e w1 ⟨rfl, hB⟩))
  go_ret2
  rw [hap]
  exact ⟨rfl, hB⟩
theorem apply_any (s : ByteArray) (w : World) (a : Option Addr) (n cap : Nat) (es : List Ed) (he : Edits w a n es) (hn : n ≤ maxLen) (hs : s.size ≤ maxLen) :
    Calls Try.prog 14 #[.string s, .slice a n cap] w fun e w' => e = .returned (.tuple #[.string ⟨(applied s es).1.toArray⟩, .int .i64 (applied s es).2]) ∧ Below w.heap.size w w' := by
  by_cases hr : refused s es = 0
  · exact apply_ok s w a n cap es he hn hr
  · exact apply_bad s w a n cap es he hn hs hr
end Go.Proofs.Ytigmakdfladjnaa
