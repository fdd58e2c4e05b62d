/-
  Layer 3: the law SpanKeeps.
-/
import Derived.Test.YtigmakdfladjnaaFa
namespace Go.Proofs.Ytigmakdfladjnaa
open Go.ChangeShapes Go.WideShapes Go.ChangeAt Go.RowKit

set_option maxHeartbeats 2000000 in
theorem spanKeeps_no (s t : ByteArray) (a : Option Addr) (n cap : Nat) (es : List Ed) (g : Int) (w : World) (he : Edits w a n es) (hg : g ≠ 0 ∨ 3000 < s.size)
    (h1 : ∀ w, Edits w a n es → Calls Try.prog 14 #[.string s, .slice a n cap] w fun e w' => e = .returned (.tuple #[.string t, .int .i64 g]) ∧ Below w.heap.size w w') :
    Calls Try.prog 7 #[.string s, .slice a n cap] w fun e w' => e = .returned (.bool true) ∧ Below w.heap.size w w' := by
  have hA : Below w.heap.size w w := Below.refl _ _
  have H1 := Lib.hid h1
  clear h1
  by_cases hg0 : g = 0
  · subst hg0
    have d1 : (3000 : Int) < (s.size : Int) := by omega
    clear hg
    go_enter Try.func7, Try.ntmps7
    go_wp2_with (first
      | (go_at_call 11; refine (fixed_any _).mono ?_; rintro e w1 ⟨rfl, hB⟩; replace he := edits_below he hB; replace hA := below_chain hA hB; clear hB)
      | (go_at_call 14; refine (H1.out _ he).mono ?_; rintro e w2 ⟨rfl, hB⟩; replace hA := below_chain hA hB; clear hB))
    go_ret
    exact ⟨rfl, hA⟩
  · have hq : (g == 0) = false := beq_eq_false_iff_ne.2 hg0
    clear hg
    go_enter Try.func7, Try.ntmps7
    go_wp2_with (first
      | (go_at_call 11; refine (fixed_any _).mono ?_; rintro e w1 ⟨rfl, hB⟩; replace he := edits_below he hB; replace hA := below_chain hA hB; clear hB)
      | (go_at_call 14; refine (H1.out _ he).mono ?_; rintro e w2 ⟨rfl, hB⟩; replace hA := below_chain hA hB; clear hB))
    go_ret
    exact ⟨rfl, hA⟩

theorem count_next (es : List Ed) (i : Nat) : (List.range' 0 (i + 1)).countP (left? es 0) = (List.range' 0 i).countP (left? es 0) + (if left? es 0 i then 1 else 0) := by
  have : List.range' 0 (i + 1) = List.range' 0 i ++ [i] := by rw [List.range'_1_concat]; simp
  rw [this, List.countP_append]
  simp [List.countP_cons]
theorem puts_app (a b : List Ed) : puts (a ++ b) = puts a + puts b := by
  induction a with
  | nil => simp [puts]
  | cons x l ih => simp [puts, ih]; omega
theorem puts_next (es : List Ed) (k : Nat) (x : Ed) (h : es[k]? = some x) : puts (es.take (k + 1)) = puts (es.take k) + x.tx.size := by
  rw [take_more es k x h, puts_app]; simp [puts]
set_option maxHeartbeats 4000000 in
theorem spanKeeps_yes (s t : ByteArray) (a : Option Addr) (n cap : Nat) (es : List Ed) (w : World) (he : Edits w a n es) (hn : n ≤ maxLen) (hs : s.size ≤ 3000) (ht : t.size ≤ 65536) (hpu : puts es ≤ 65536)
    (h1 : ∀ w, Edits w a n es → Calls Try.prog 14 #[.string s, .slice a n cap] w fun e w' => e = .returned (.tuple #[.string t, .int .i64 0]) ∧ Below w.heap.size w w')
    (h2 : ∀ w (i : Nat) z, Edits w a n es → i ≤ s.size → goesTo i i es = some z → Calls Try.prog 16 #[.int .i64 s.size, .slice a n cap, .int .i64 i] w fun e w' => e = .returned (.tuple #[.int .i64 z, .bool true]) ∧ Below w.heap.size w w')
    (h3 : ∀ w (i : Nat), Edits w a n es → i ≤ s.size → goesTo i i es = none → Calls Try.prog 16 #[.int .i64 s.size, .slice a n cap, .int .i64 i] w fun e w' => e = .returned (.tuple #[.int .i64 0, .bool false]) ∧ Below w.heap.size w w')
    (hby : ∀ (i : Nat) z, i < s.size → goesTo i i es = some z → 0 ≤ z ∧ z < t.size ∧ t.data.toList[z.toNat]? = s.data.toList[i]?)
    (hor : ∀ (i j : Nat) z y, i < j → j < s.size → goesTo i i es = some z → goesTo j j es = some y → z < y)
    (hct : (List.range' 0 s.size).countP (left? es 0) + puts es = t.size) (hend : goesTo s.size s.size es = some (t.size : Int)) :
    Calls Try.prog 7 #[.string s, .slice a n cap] w fun e w' => e = .returned (.bool true) ∧ Below w.heap.size w w' := by
  have hA : Below w.heap.size w w := Below.refl _ _
  have hlen := he.1
  have H1 := Lib.hid h1
  have H2 := Lib.hid h2
  have H3 := Lib.hid h3
  have HB := Lib.hid hby
  have HO := Lib.hid hor
  have HC := Lib.hid hct
  have HE := Lib.hid hend
  clear h1 h2 h3 hby hor hct hend
  unfold maxLen at hn
  go_enter Try.func7, Try.ntmps7
  go_wp2_with (first
    | (go_at_call 11; refine (fixed_any _).mono ?_; rintro e w1 ⟨rfl, hB⟩; replace he := edits_below he hB; replace hA := below_chain hA hB; clear hB)
    | (go_at_call 14; refine (H1.out _ he).mono ?_; rintro e w2 ⟨rfl, hB⟩; replace he := edits_below he hB; replace hA := below_chain hA hB; clear hB))
  go_loopw [7, 8, 9] (fun la lf ii wr => ∃ (i c : Nat) (last : Int), i ≤ s.size ∧ ii = .int .i64 i ∧ lf = .int .i64 c ∧ la = .int .i64 last ∧ c = (List.range' 0 i).countP (left? es 0) ∧ c ≤ i ∧ Hid (∀ (j : Nat) z, i ≤ j → j < s.size → goesTo j j es = some z → last < z) ∧ -1 ≤ last ∧ last ≤ 65536 ∧ Below w2.heap.size w2 wr) (fun _ _ ii _ => s.size - (intOf ii).toNat)
  case atStart => exact ⟨0, 0, -1, Nat.zero_le _, rfl, rfl, rfl, rfl, Nat.le_refl _, Lib.hid (fun j z _ hj hz => by have := (HB.out j z hj hz).1; omega), by omega, by omega, Below.refl _ _⟩
  case round =>
    obtain ⟨i, c, last, hi, rfl, rfl, rfl, hc, hci, hla, hl1, hl2, hB⟩ := hrel
    have her := edits_below he hB
    by_cases hlt : i < s.size
    · have hcn := count_next es i
      rw [← hc] at hcn
      have HCN := Lib.hid hcn
      clear hcn hc
      cases hgo : goesTo i i es with
      | none =>
        have hm := fun w he => H3.out w i he (by omega) hgo
        have hl : left? es 0 i = false := by unfold left?; rw [Int.add_zero, hgo]; rfl
        have HM := Lib.hid hm
        have HL := Lib.hid hl
        have HG := Lib.hid hgo
        clear hm hl hgo
        go_wp2_with (first
          | (go_at_call 16; refine (HM.out _ her).mono ?_; rintro e w3 ⟨rfl, hB2⟩))
        go_roundw
        case rel => exact ⟨i + 1, c, last, by omega, by go_num, rfl, rfl, by rw [HCN.out, HL.out]; simp, by omega, Lib.hid (fun j z hj hj2 hz => hla.out j z (by omega) hj2 hz), hl1, hl2, below_chain hB hB2⟩
        case measure => simp [intOf]; omega
      | some z =>
        obtain ⟨z1, z2, z3⟩ := HB.out i z hlt hgo
        have hz := hla.out i z (Nat.le_refl _) hlt hgo
        obtain ⟨k, rfl⟩ : ∃ k : Nat, z = k := ⟨z.toNat, by omega⟩
        rw [Int.toNat_natCast] at z3
        have hk : k < t.size := by omega
        rw [get_at t k hk, get_at s i hlt] at z3
        have h8 : (((t[k]'hk).toNat : Int) == ((s[i]'hlt).toNat : Int)) = true := by rw [Option.some.inj z3]; simp
        have h9 : ((t[k]'hk).toNat : Int) = ((s[i]'hlt).toNat : Int) := by rw [Option.some.inj z3]
        have hm := fun w he => H2.out w i k he (by omega) hgo
        have hl : left? es 0 i = true := by unfold left?; rw [Int.add_zero, hgo]; rfl
        have HM := Lib.hid hm
        have HL := Lib.hid hl
        have HG := Lib.hid hgo
        have d1 : decide ((k : Int) ≤ last) = false := decide_eq_false (by omega)
        have d2 : decide (t.size ≤ k) = false := decide_eq_false (by omega)
        have d3 : (k : Int) < (t.size : Int) := by omega
        have d4 : (i : Int) < (s.size : Int) := by omega
        clear hm hl hgo z1 z2 z3
        go_wp2_with (first
          | (go_at_call 16; refine (HM.out _ her).mono ?_; rintro e w3 ⟨rfl, hB2⟩))
        go_quiet (fail)
        go_wp2
        go_roundw
        case rel => exact ⟨i + 1, c + 1, k, by omega, by go_num, by go_num, rfl, by rw [HCN.out, HL.out]; simp, by omega, Lib.hid (fun j z hj hj2 hz => HO.out i j k z (by omega) hj2 HG.out hz), by omega, by omega, below_drewN (below_chain hB hB2) _⟩
        case measure => simp [intOf]; omega
    · obtain rfl : i = s.size := by omega
      replace he := her
      replace hA := below_chain hA hB
      rw [← hc] at HC
      clear hB her hla hc
      go_wp2
      obtain ⟨w4, hw4⟩ : ∃ w4, w4 = wr := ⟨_, rfl⟩
      rw [← hw4] at he hA ⊢
      clear hw4
      go_loopw [12, 13] (fun pp ii wr => ∃ (k p : Nat), k ≤ n ∧ ii = .int .i64 k ∧ pp = .int .i64 p ∧ p = puts (es.take k) ∧ Below w4.heap.size w4 wr) (fun _ ii _ => n - (intOf ii).toNat)
      case atStart => exact ⟨0, 0, Nat.zero_le _, rfl, rfl, rfl, Below.refl _ _⟩
      case round =>
        obtain ⟨k, p, hk, rfl, rfl, hp, hB⟩ := hrel
        by_cases hlt : k < n
        · obtain ⟨x, hxk⟩ : ∃ x, es[k]? = some x := ⟨es[k]'(by omega), List.getElem?_eq_getElem (by omega)⟩
          have hpn := puts_next es k x hxk
          have hpt := puts_take es k
          have hpx := puts_mem es x (List.mem_of_getElem? hxk)
          rw [← hp] at hpn hpt
          obtain ⟨g, off, rfl, c0, c1, c2⟩ := (edits_below he hB).2 k x hxk
          have HP := Lib.hid hpn
          clear hpn hp hxk
          obtain ⟨xl, xh, xt⟩ := x
          dsimp only at c0 c1 c2 HP hpx
          go_wp2
          go_roundw
          case rel => exact ⟨k + 1, p + xt.size, by omega, by go_num, by go_num, HP.out.symm, hB⟩
          case measure => simp [intOf]; omega
        · obtain rfl : k = n := by omega
          rw [List.take_of_length_le (by omega)] at hp
          subst hp
          replace he := edits_below he hB
          replace hA := below_chain hA hB
          have hm := fun w he => H2.out w s.size t.size he (Nat.le_refl _) HE.out
          have HM := Lib.hid hm
          have h9 : (c : Int) + (puts es : Int) = (t.size : Int) := by have := HC.out; omega
          clear hm hB
          go_wp2_with (first
            | (go_at_call 16; refine (HM.out _ he).mono ?_; rintro e w5 ⟨rfl, hB⟩; replace hA := below_chain hA hB; clear hB))
          go_ret
          exact ⟨rfl, hA⟩

theorem spanKeeps_walk (s : ByteArray) (a : Option Addr) (n cap : Nat) (es : List Ed) (w : World) (hs : s.size ≤ maxLen) (he : Edits w a n es) (hn : n ≤ maxLen) :
    Calls Try.prog 7 #[.string s, .slice a n cap] w fun e w' => e = .returned (.bool true) ∧ Below w.heap.size w w' := by
  have h1 := fun w he => apply_any s w a n cap es he hn hs
  by_cases hg : (applied s es).2 = 0 ∧ s.size ≤ 3000
  · obtain ⟨hg, hs3⟩ := hg
    obtain ⟨hr, hT⟩ := applied_ok hg
    obtain ⟨hs2, hst⟩ := refused_ok hr
    have hap := applied_yes hr hT
    have hpt := puts_textOf s.data.toList es 0
    have hck : checked' s.size es = 0 := by unfold checked'; rw [if_neg (by omega), hst]; rfl
    have hpl : ∀ i : Nat, i ≤ s.size → movedTo i i es = goesTo i i es := fun i hi => movedTo_plain s.size i es i 0 hst (by omega) (by omega) (by omega)
    have hmv : ∀ i : Nat, i ≤ s.size → moved s.size es i = (match goesTo i i es with | none => (0, false) | some t => (t, true)) := by
      intro i hi
      unfold moved
      rw [if_pos ⟨hck, by omega, by omega⟩, hpl i hi]
      cases goesTo i i es <;> rfl
    obtain ⟨tb, htb⟩ : ∃ tb : ByteArray, tb = ⟨(textOf s.data.toList 0 es).toArray⟩ := ⟨_, rfl⟩
    have htl : tb.data.toList = textOf s.data.toList 0 es := by rw [htb]
    have hts : tb.size = (textOf s.data.toList 0 es).length := by rw [← htl]; rfl
    have hlen := textOf_len s es 0 hst (Nat.zero_le _)
    rw [hap] at h1
    dsimp only at h1
    rw [← htb] at h1
    refine spanKeeps_yes s tb a n cap es w he hn hs3 (by omega) (by omega) h1 (fun w i z he hi hz => ?_) (fun w i he hi hz => ?_) (fun i z hi hz => ?_) (fun i j z y hij hj hz hy => ?_) ?_ ?_
    · have := move_any s.size i w a n cap es he hn
      rw [hmv i hi, hz] at this
      exact this
    · have := move_any s.size i w a n cap es he hn
      rw [hmv i hi, hz] at this
      exact this
    · obtain ⟨b1, b2, b3⟩ := goes_byte s es 0 0 [] i z hst (Nat.zero_le _) rfl (Nat.zero_le _) hi (by rw [Int.add_zero]; exact hz)
      rw [List.nil_append] at b2 b3
      exact ⟨by simpa using b1, by omega, by rw [htl]; exact b3⟩
    · exact goes_order s es 0 0 i j z y hst (Nat.zero_le _) (by omega) (Nat.zero_le _) hij hj (by rw [Int.add_zero]; exact hz) (by rw [Int.add_zero]; exact hy)
    · have := left_count s es 0 0 hst (Nat.zero_le _)
      rw [Nat.sub_zero] at this
      omega
    · have := goes_end s.size es 0 s.size hst
      rw [this]
      congr 1; omega
  · refine spanKeeps_no s _ a n cap es (applied s es).2 w he ?_ h1
    by_cases h : (applied s es).2 = 0
    · exact .inr (Nat.lt_of_not_le fun h2 => hg ⟨h, h2⟩)
    · exact .inl h
end Go.Proofs.Ytigmakdfladjnaa
