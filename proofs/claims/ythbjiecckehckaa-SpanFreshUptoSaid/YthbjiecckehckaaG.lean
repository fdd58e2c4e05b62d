/-
  Layer 3: contract of span.Apply.
-/
import Derived.Test.YthbjiecckehckaaF
namespace Go.Proofs.Ythbjiecckehckaa
open Go.ChangeShapes Go.WideShapes Go.ChangeAt Go.RowKit

/-- how many bytes edits put -/
def puts : List Ed → Nat
  | [] => 0
  | x :: l => x.tx.size + puts l
theorem puts_at (l : List Ed) (k : Nat) (x : Ed) (h : l[k]? = some x) : puts (l.drop k) = x.tx.size + puts (l.drop (k + 1)) := by
  obtain ⟨hk, he⟩ := List.getElem?_eq_some_iff.mp h
  rw [List.drop_eq_getElem_cons hk, he]; rfl
theorem textOf_le (s : List UInt8) : ∀ (es : List Ed) (r : Nat), (textOf s r es).length ≤ s.length + puts es + es.length * s.length
  | [], r => by simp [textOf, puts]
  | x :: l, r => by
    have h := textOf_le s l x.hi.toNat
    have h7 : x.tx.data.toList.length = x.tx.size := rfl
    simp only [textOf, puts, List.length_append, List.length_take, List.length_drop, List.length_cons, h7]
    rw [Nat.add_mul]
    omega
/-- what Apply answers: the text and its fault -/
def applied (s : ByteArray) (es : List Ed) : List UInt8 × Int :=
  if refused s es = 0 then (if 65536 < (textOf s.data.toList 0 es).length then ([], 2) else (textOf s.data.toList 0 es, 0)) else ([], refused s es)
theorem refused_ok {s : ByteArray} {es : List Ed} (h : refused s es = 0) : s.size ≤ 65536 ∧ stands s.size 0 es = true := by
  unfold refused checked' at h
  split at h
  · omega
  · split at h
    · omega
    · split at h
      · exact ⟨by omega, by assumption⟩
      · omega
set_option maxRecDepth 100000 in
set_option maxHeartbeats 4000000 in
theorem apply_ok (s : ByteArray) (w : World) (a : Option Addr) (n cap : Nat) (es : List Ed) (he : Edits w a n es) (hn : n ≤ maxLen) (hr : refused s es = 0) (hp : puts es ≤ 140737488351232) :
    Calls Try.prog 14 #[.string s, .slice a n cap] w fun e w' => e = .returned (.tuple #[.string ⟨(applied s es).1.toArray⟩, .int .i64 (applied s es).2]) ∧ Below w.heap.size w w' := by
  obtain ⟨hs, hst⟩ := refused_ok hr
  have hs' : s.size ≤ maxLen := by unfold maxLen; omega
  have hlc := fun w (he : Edits w a n es) => lcheck_any s w a n cap es he hn hs'
  rw [hr] at hlc
  have hed := fun w (he : Edits w a n es) (N : Nat) (hN : N ≤ 65536) (hT : (textOf s.data.toList 0 es).length = N) => edited_any s w a n cap es he hn N hN hT hst hs
  have HL := Lib.hid he.1
  have happ : applied s es = if 65536 < (textOf s.data.toList 0 es).length then ([], 2) else (textOf s.data.toList 0 es, 0) := by unfold applied; rw [if_pos hr]
  obtain ⟨N, hN⟩ : ∃ N, N = (textOf s.data.toList 0 es).length := ⟨_, rfl⟩
  rw [← hN] at happ
  have HA := Lib.hid (And.intro happ hN)
  have HST := Lib.hid (And.intro hst hr)
  have hn' := hn
  unfold maxLen at hn
  clear happ hN hst hr
  have hA : Below w.heap.size w w := Below.refl _ _
  go_enter Try.func14, Try.ntmps14
  go_wp2_with (first
    | (go_at_call 26; refine (hlc _ he).mono ?_; rintro e w1 ⟨rfl, hB⟩; replace he := edits_below he hB; replace hA := below_chain hA hB; clear hB))
  go_loopw [7, 20] (fun t i wr => ∃ (k R M : Nat), k ≤ n ∧ i = .int .i64 k ∧ t = .int .i64 M ∧ R ≤ s.size ∧ M ≤ s.size + (puts es - puts (es.drop k)) ∧ puts (es.drop k) ≤ puts es ∧ s.size - R ≤ M ∧ Below w1.heap.size w1 wr ∧ Hid (N + (s.size - R) = M + (textOf s.data.toList R (es.drop k)).length) ∧ Hid (stands s.size R (es.drop k) = true)) (fun _ i _ => n - (intOf i).toNat)
  case atStart => exact ⟨0, 0, s.size, Nat.zero_le _, rfl, rfl, Nat.zero_le _, by omega, by simp, by omega, Below.refl _ _, Lib.hid (by rw [HA.out.2, List.drop_zero]; omega), Lib.hid (by simpa using HST.out.1)⟩
  case round =>
    obtain ⟨k, R, M, hk, rfl, rfl, hR, hM, hpk, hM2, hB, HT, HS⟩ := hrel
    by_cases hlt : k < n
    · obtain ⟨⟨lo, hi, tx⟩, hxk⟩ : ∃ x, es[k]? = some x := ⟨es[k]'(by have := HL.out; omega), List.getElem?_eq_getElem (by have := HL.out; omega)⟩
      have hsa := stands_at s.size R es k _ hxk
      rw [HS.out] at hsa
      have hsb := hsa.symm
      rw [Bool.and_eq_true, decide_eq_true_eq] at hsb
      dsimp only at hsb
      obtain ⟨⟨h1, h2, h3⟩, h4⟩ := hsb
      obtain ⟨L, rfl⟩ : ∃ L : Nat, lo = (L : Int) := ⟨lo.toNat, by omega⟩
      obtain ⟨U, rfl⟩ : ∃ U : Nat, hi = (U : Int) := ⟨hi.toNat, by omega⟩
      have her := edits_below he hB
      obtain ⟨g', off, rfl, c0, c1, c2⟩ := her.2 k _ hxk
      dsimp only at c0 c1 c2
      have hpa := puts_at es k _ hxk
      dsimp only at hpa
      obtain ⟨hk', he'⟩ := List.getElem?_eq_some_iff.mp hxk
      have htx : textOf s.data.toList R (es.drop k) = (s.data.toList.drop R).take (L - R) ++ tx.data.toList ++ textOf s.data.toList U (es.drop (k + 1)) := by
        rw [List.drop_eq_getElem_cons hk', he']; rfl
      have hlen : (textOf s.data.toList R (es.drop k)).length = (L - R) + tx.size + (textOf s.data.toList U (es.drop (k + 1))).length := by
        rw [htx]
        have h6 : s.data.toList.length = s.size := rfl
        have h7 : tx.data.toList.length = tx.size := rfl
        simp only [List.length_append, List.length_take, List.length_drop]
        omega
      have hgr := fun w => grown_any ⟨(L : Int), (U : Int), tx⟩ w
      have hgain : gain ⟨(L : Int), (U : Int), tx⟩ = (tx.size : Int) - ((U : Int) - (L : Int)) := by
        unfold gain wrap64
        dsimp only
        omega
      rw [hgain] at hgr
      dsimp only at hgr
      have hs2 := hB.size
      obtain ⟨M', hM'⟩ : ∃ M' : Nat, (M' : Int) = (M : Int) + ((tx.size : Int) - ((U : Int) - (L : Int))) := ⟨M + tx.size - (U - L), by omega⟩
      have hwr : IntKind.i64.wrap ((M : Int) + ((tx.size : Int) - ((U : Int) - (L : Int)))) = (M' : Int) := by rw [IntKind.wrap_i64]; omega
      have hM3 : M' ≤ s.size + (puts es - puts (es.drop (k + 1))) := by omega
      have hp3 : puts (es.drop (k + 1)) ≤ puts es := by omega
      have hM4 : s.size - U ≤ M' := by omega
      have hU : U ≤ s.size := by omega
      have HX := Lib.hid (And.intro hlen (And.intro h4 (And.intro hM' (And.intro h1 h2))))
      clear hsa h1 h2 h3 h4 hxk her hpa hk' he' htx hlen hgain hM'
      go_wp2_with (first
        | (go_at_call 27; refine (hgr _).mono ?_; rintro e w2 ⟨rfl, hB2⟩))
      go_roundw
      case rel =>
        refine ⟨k + 1, U, M', by omega, by go_num, rfl, hU, hM3, hp3, hM4, below_chain (hB.alloc hs2 _) hB2, Lib.hid ?_, Lib.hid HX.out.2.1⟩
        have e1 := HT.out
        have e2 := HX.out
        rw [e2.1] at e1
        have e3 := e2.2.2.1
        have e4 := e2.2.2.2
        omega
      case measure => simp [intOf]; omega
    · have hkn : k = n := by omega
      have hdr : es.drop k = [] := List.drop_of_length_le (by have := HL.out; omega)
      have hNM : (M : Int) = (N : Int) := by
        have e1 := HT.out
        rw [hdr] at e1
        simp only [textOf, List.length_drop] at e1
        have h6 : s.data.toList.length = s.size := rfl
        omega
      have her := edits_below he hB
      rw [hNM]
      by_cases hbig : 65536 < N
      · have hap : applied s es = ([], 2) := by rw [HA.out.1, if_pos hbig]
        clear hdr her hed
        go_wp2
        go_ret2
        rw [hap]
        exact ⟨rfl, below_chain hA hB⟩
      · have hap : applied s es = (textOf s.data.toList 0 es, 0) := by rw [HA.out.1, if_neg hbig]
        have hed' := hed _ her N (by omega) HA.out.2.symm
        clear hdr her hed
        go_wp2_with (first
          | (go_at_call 28; refine hed'.mono ?_; rintro e w2 ⟨rfl, hB2⟩))
        go_ret2
        rw [hap]
        exact ⟨rfl, below_chain (below_chain hA hB) hB2⟩
theorem apply_bad (s : ByteArray) (w : World) (a : Option Addr) (n cap : Nat) (es : List Ed) (he : Edits w a n es) (hn : n ≤ maxLen) (hs : s.size ≤ maxLen) (hr : refused s es ≠ 0) :
    Calls Try.prog 14 #[.string s, .slice a n cap] w fun e w' => e = .returned (.tuple #[.string ⟨(applied s es).1.toArray⟩, .int .i64 (applied s es).2]) ∧ Below w.heap.size w w' := by
  have hlc := lcheck_any s w a n cap es he hn hs
  have hap : applied s es = ([], refused s es) := by unfold applied; rw [if_neg hr]
  obtain ⟨r, hrr⟩ : ∃ r, r = refused s es := ⟨_, rfl⟩
  rw [← hrr] at hlc hap hr
  clear hrr
  unfold maxLen at hn
  go_enter Try.func14, Try.ntmps14
  go_wp2_with (first
    | (go_at_call 26; refine hlc.mono ?_; rintro e w1 ⟨rfl, hB⟩))
  go_ret2
  rw [hap]
  exact ⟨rfl, hB⟩
theorem apply_any (s : ByteArray) (w : World) (a : Option Addr) (n cap : Nat) (es : List Ed) (he : Edits w a n es) (hn : n ≤ maxLen) (hs : s.size ≤ maxLen) (hp : puts es ≤ 140737488351232) :
    Calls Try.prog 14 #[.string s, .slice a n cap] w fun e w' => e = .returned (.tuple #[.string ⟨(applied s es).1.toArray⟩, .int .i64 (applied s es).2]) ∧ Below w.heap.size w w' := by
  by_cases hr : refused s es = 0
  · exact apply_ok s w a n cap es he hn hr hp
  · exact apply_bad s w a n cap es he hn hs hr
end Go.Proofs.Ythbjiecckehckaa
