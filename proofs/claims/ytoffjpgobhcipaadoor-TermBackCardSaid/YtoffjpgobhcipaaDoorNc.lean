/-
  Texts O P Q R S of an earlier seat, under this one's numbers.
-/
import Derived.Test.YtoffjpgobhcipaaDoorNb
import Derived.Test.YtoffjpgobhcipaaDoorShelf
import Derived.Deep.QuietTactic
import Derived.BigQuiet
import Derived.Laws.EntriesVeiled
import Derived.Deep.LoopGhost
import Derived.Deep.CutRange
import Derived.Deep.DeepCutAuto
import Derived.IntWalk
import Derived.Deep.RegionWith
import Derived.Laws.Strings
set_option maxRecDepth 100000
/-
  Layer 5: contracts of number.rows and its closures.
-/
namespace Go.Proofs.YtoffjpgobhcipaaDoor.Num
open Go.ChangeShapes Go.WideShapes Go.ChangeAt Go.RowKit

/-- what a cursor over a text needs in memory: the place, the text, where the place lies, the closure that tells a digit -/
structure Cur (w : World) (b q p d : Nat) (s : ByteArray) (k : Nat) : Prop where
  cb : w.heap[b]? = some (.cells #[.int .i64 k] 3 (0, 0))
  cq : w.heap[q]? = some (.cells #[.string s] 9 (0, 0))
  cp : w.heap[p]? = some (.cells #[.pointer (some ⟨b, 0, none⟩)] 120 (0, 0))
  cd : w.heap[d]? = some (.cells #[.func (.func 95) #[] #[.pointer (some ⟨q, 0, none⟩)]] 131 (0, 0))
  hk : k ≤ s.size
  bq : b ≠ q
  bp : b ≠ p
  bd : b ≠ d
theorem cell_of {w : World} {g : Nat} {v : Value} {t : TypeId} (h : w.heap[g]? = some (.cells #[v] t (0, 0))) : w.cell? ⟨g, 0, none⟩ = some v := by
  unfold World.cell?; simp only [h]; rfl
theorem frozen_of {w : World} {g : Nat} {v : Value} {t : TypeId} (h : w.heap[g]? = some (.cells #[v] t (0, 0))) : w.frozen? ⟨g, 0, none⟩ = false := by
  unfold World.frozen?; simp only [h]; rfl

theorem rows_any (s : ByteArray) (b k : Nat) (hk : k ≤ s.size) (w : World) (hb : w.heap[b]? = some (.cells #[.int .i64 k] 3 (0, 0))) :
    Calls Tryd.prog 85 #[.string s, .pointer (some ⟨b, 0, none⟩)] w fun e w' => e = .returned (.func (.func 97) #[] #[.pointer (some ⟨w.heap.size + 2, 0, none⟩), .pointer (some ⟨w.heap.size + 1, 0, none⟩), .pointer (some ⟨w.heap.size, 0, none⟩)]) ∧
      Cur w' b w.heap.size (w.heap.size + 1) (w.heap.size + 2) s k ∧ Below w.heap.size w w' := by
  have hlt : b < w.heap.size := (Array.getElem?_eq_some_iff.1 hb).1
  have HB := Lib.hid hb
  have HLT := Lib.hid hlt
  clear hb hlt
  go_enter Tryd.func85, Tryd.ntmps85
  go_wp2
  go_ret
  refine ⟨rfl, ⟨?_, ?_, ?_, ?_, hk, ?_, ?_, ?_⟩, (((Below.refl _ w).alloc (Nat.le_refl _) _).alloc (by simp) _).alloc (by simp; omega) _⟩
  · rw [← HB.out]
    have := HLT.out
    show (((w.heap.push _).push _).push _)[b]? = _
    rw [Array.getElem?_push, Array.getElem?_push, Array.getElem?_push, if_neg (by simp; omega), if_neg (by simp; omega), if_neg (by omega)]
  · show (((w.heap.push _).push _).push _)[w.heap.size]? = _
    simp [Array.getElem?_push]
    omega
  · show (((w.heap.push _).push _).push _)[w.heap.size + 1]? = _
    simp [Array.getElem_push]
  · show (((w.heap.push _).push _).push _)[w.heap.size + 2]? = _
    simp [Array.getElem_push]
  · have := HLT.out; omega
  · have := HLT.out; omega
  · have := HLT.out; omega

/-- is there a digit of a base at a place? -/
def digAt (base : Nat) (l : List UInt8) (i : Nat) : Bool := match l[i]? with | some c => dig base c | none => false
theorem digAt_in (s : ByteArray) (base i : Nat) (h : i < s.size) : digAt base s.data.toList i = dig base s[i] := by
  unfold digAt; rw [at_of s i h]
theorem digAt_out (s : ByteArray) (base i : Nat) (h : s.size ≤ i) : digAt base s.data.toList i = false := by
  unfold digAt; rw [List.getElem?_eq_none (by simpa using h)]
set_option maxHeartbeats 1000000 in
theorem digit_c (s : ByteArray) (q i base : Nat) (w : World) (hq : w.cell? ⟨q, 0, none⟩ = some (.string s)) :
    Calls Tryd.prog 95 #[.int .i64 i, .int .i64 base, .pointer (some ⟨q, 0, none⟩)] w fun e w' => e = .returned (.bool (digAt base s.data.toList i)) ∧ w' = w := by
  by_cases h : i < s.size
  · rw [digAt_in s base i h]
    have d : (i : Int) < s.size := by omega
    have hd : dig base s[i] = decide ((val s[i] : Int) < (base : Int)) := by
      unfold dig; rw [Bool.eq_iff_iff]; simp
    rw [hd]
    clear hd
    go_enter Tryd.func95, Tryd.ntmps95
    go_wp2_with (go_at_call 96; refine (value_any s[i] _).mono ?_; rintro e w1 ⟨rfl, hw⟩; rw [hw]; clear hw w1)
    all_goals
      go_ret
      exact ⟨by first | rfl | exact ret_bool (by simp <;> omega), rfl⟩
  · rw [digAt_out s base i (by omega)]
    have d : ¬ (i : Int) < s.size := by omega
    go_enter Tryd.func95, Tryd.ntmps95
    go_wp2
    go_ret
    exact ⟨ret_bool rfl, rfl⟩
end Go.Proofs.YtoffjpgobhcipaaDoor.Num

/-
  Layer 5: contract of the closure that goes on behind a row.
-/
namespace Go.Proofs.YtoffjpgobhcipaaDoor.Num
open Go.ChangeShapes Go.WideShapes Go.ChangeAt Go.RowKit

/-- does a row go on at a place? -/
def stepOn (base : Nat) (l : List UInt8) (i : Nat) : Bool := digAt base l i || (decide (l[i]? = some 95) && digAt base l (i + 1))
def runIdx (f : Nat → Bool) : Nat → Nat → Nat
  | 0, i => i
  | n + 1, i => if f i then runIdx f n (i + 1) else i
/-- where a row ends that begins at a place -/
def rowEnd (base : Nat) (l : List UInt8) (k : Nat) : Nat := if digAt base l k then runIdx (stepOn base l) (l.length - k) k else k

theorem Cur.keep {w w' : World} {b q p d : Nat} {s : ByteArray} {k : Nat} (h : Cur w b q p d s k) (hh : w'.heap = w.heap) : Cur w' b q p d s k := by
  obtain ⟨h1, h2, h3, h4, h5, h6, h7, h8⟩ := h
  exact ⟨by rw [hh]; exact h1, by rw [hh]; exact h2, by rw [hh]; exact h3, by rw [hh]; exact h4, h5, h6, h7, h8⟩
theorem Cur.move {w : World} {b q p d : Nat} {s : ByteArray} {k : Nat} (h : Cur w b q p d s k) (k' : Nat) (hk : k' ≤ s.size) : Cur (w.setCell ⟨b, 0, none⟩ (.int .i64 k')) b q p d s k' := by
  obtain ⟨h1, h2, h3, h4, h5, h6, h7, h8⟩ := h
  refine ⟨?_, ?_, ?_, ?_, hk, h6, h7, h8⟩
  · rw [heap_setCell_same w b 0 _ 3 _ h1]; rfl
  · rw [Below.heap_setCell _ _ _ _ (fun e => h6 e.symm)]; exact h2
  · rw [Below.heap_setCell _ _ _ _ (fun e => h7 e.symm)]; exact h3
  · rw [Below.heap_setCell _ _ _ _ (fun e => h8 e.symm)]; exact h4

theorem below_drewN {B : Nat} {a w : World} (h : Below B a w) (n : Nat) : Below B a (w.drewN n) := h.trans ⟨rfl, rfl, rfl, Nat.le_refl _, fun _ _ => rfl⟩

set_option maxHeartbeats 4000000 in
theorem row_c (s : ByteArray) (hs : s.size ≤ 4611686018427387904) (base : Nat) (b q p d k B : Nat) (hB : B ≤ b) (w : World) (hC : Cur w b q p d s k) :
    Calls Tryd.prog 97 #[.int .i64 base, .pointer (some ⟨d, 0, none⟩), .pointer (some ⟨p, 0, none⟩), .pointer (some ⟨q, 0, none⟩)] w fun e w' => e = .returned (.bool (digAt base s.data.toList k)) ∧ Cur w' b q p d s (rowEnd base s.data.toList k) ∧ Below B w w' := by
  have hlen : s.data.toList.length = s.size := by simp
  have cb := cell_of hC.cb
  have cq := cell_of hC.cq
  have cp := cell_of hC.cp
  have cd := cell_of hC.cd
  have hdc := fun (w : World) (hq : w.cell? ⟨q, 0, none⟩ = some (.string s)) (i n : Nat) => digit_c s q i base (w.drewN n) (by simpa using hq)
  have hk := hC.hk
  have HC := Lib.hid hC
  cases hd : digAt base s.data.toList k with
  | false =>
    have hr : rowEnd base s.data.toList k = k := by unfold rowEnd; rw [hd]; rfl
    have HR := Lib.hid hr
    have hdk := hdc w cq k
    simp only [hd] at hdk
    clear hr hC hlen hdc
    go_enter Tryd.func97, Tryd.ntmps97
    go_upto_region 1 with fail
    go_quiet ((go_at_call 95; refine (hdk _).mono ?_; rintro e w' ⟨rfl, rfl⟩; exact ⟨rfl, _, rfl⟩))
    go_wp2
    go_ret
    exact ⟨rfl, by rw [HR.out]; exact HC.out.keep rfl, below_drewN (Below.refl _ _) _⟩
  | true =>
    have hr : rowEnd base s.data.toList k = runIdx (stepOn base s.data.toList) (s.size - k) k := by unfold rowEnd; rw [hd, hlen]; rfl
    obtain ⟨E, hE⟩ : ∃ E, E = rowEnd base s.data.toList k := ⟨_, rfl⟩
    rw [← hE] at hr ⊢
    have HR := Lib.hid hr
    have hdk := hdc w cq k
    simp only [hd] at hdk
    clear hr hC hlen hE hdc
    go_enter Tryd.func97, Tryd.ntmps97
    go_upto_region 1 with fail
    go_quiet ((go_at_call 95; refine (hdk _).mono ?_; rintro e w' ⟨rfl, rfl⟩; exact ⟨rfl, _, rfl⟩))
    go_wp2
    clear hdk cb cq cp cd
    go_loopg [] (s.size - k) (fun g wr => ∃ i : Nat, g = s.size - i ∧ i ≤ s.size ∧ Cur wr b q p d s i ∧ Below B w wr ∧ Hid (E = runIdx (stepOn base s.data.toList) (s.size - i) i))
    case atStart => exact ⟨k, rfl, hk, HC.out.keep rfl, below_drewN (Below.refl _ _) _, HR⟩
    case round =>
      obtain ⟨i, rfl, hi, hC, hBw, hR⟩ := hrel
      have cb := cell_of hC.cb
      have fb := frozen_of hC.cb
      have cq := cell_of hC.cq
      have cp := cell_of hC.cp
      have cd := cell_of hC.cd
      have HCi := Lib.hid hC
      have hdi := fun (n : Nat) => digit_c s q i base (wr.drewN n) (by simpa using cq)
      have hdj := fun (n : Nat) => digit_c s q (i + 1) base (wr.drewN n) (by simpa using cq)
      clear hC
      obtain ⟨v, hv⟩ : ∃ v, v = stepOn base s.data.toList i := ⟨_, rfl⟩
      have HV := Lib.hid hv
      go_upto_region 3 with fail
      go_cut [43] from 13 to 48 (fun x wx => x = .bool v ∧ ∃ n, wx = wr.drewN n)
      case first =>
        clear fb HC HR hR HCi hBw
        cases hdv : digAt base s.data.toList i with
        | true =>
          have hvv : v = true := by rw [hv]; unfold stepOn; rw [hdv]; rfl
          subst hvv
          simp only [hdv] at hdi
          clear hdj hv HV hdv
          go_quiet ((go_at_call 95; refine (hdi _).mono ?_; rintro e w' ⟨rfl, rfl⟩; exact ⟨rfl, _, rfl⟩))
          go_wp2_with fail
          go_meet
          exact ⟨rfl, _, rfl⟩
        | false =>
          simp only [hdv] at hdi
          by_cases hlt : i < s.size
          · have d1 : (i : Int) < s.size := by omega
            have d0 : (0 : Int) ≤ i := by omega
            have d2 : decide ((i : Int) < s.size) = true := decide_eq_true d1
            have b0 := bytes_n s[i] 95 95 rfl
            have hx := at_of s i hlt
            by_cases h95 : s[i] = 95
            · have b1 : ((s[i].toNat : Int) == 95) = true := by rw [b0]; simpa using h95
              have w1 : IntKind.i64.wrap ((i : Int) + 1) = (i : Int) + 1 := by rw [IntKind.wrap_i64]; omega
              have hvv : v = digAt base s.data.toList (i + 1) := by rw [hv]; unfold stepOn; rw [hdv, hx, h95]; simp
              cases hdw : digAt base s.data.toList (i + 1)
              all_goals
                (simp only [hdw] at hdj
                 rw [hdw] at hvv
                 subst hvv
                 have hdj2 := fun (n : Nat) => show Calls Tryd.prog 95 #[.int .i64 ((i : Int) + 1), .int .i64 base, .pointer (some ⟨q, 0, none⟩)] (wr.drewN n) _ from hdj n
                 clear hdj hv HV hdv hdw hx h95 b0
                 go_quiet ((first
                   | (go_at_call_of 95 (Value.int .i64 (i : Int)); refine (hdi _).mono ?_; rintro e w' ⟨rfl, rfl⟩; exact ⟨rfl, _, rfl⟩)
                   | (go_at_call 95; refine (hdj2 _).mono ?_; rintro e w' ⟨rfl, rfl⟩; exact ⟨rfl, _, rfl⟩)))
                 go_wp2_with fail
                 go_meet
                 exact ⟨rfl, _, rfl⟩)
            · have b1 : ((s[i].toNat : Int) == 95) = false := by rw [b0]; simpa using h95
              have hvv : v = false := by
                rw [hv]; unfold stepOn; rw [hdv, hx]
                simp [h95]
              subst hvv
              clear hdj hv HV hdv hx h95 b0
              go_quiet ((go_at_call 95; refine (hdi _).mono ?_; rintro e w' ⟨rfl, rfl⟩; exact ⟨rfl, _, rfl⟩))
              go_wp2_with fail
              go_meet
              exact ⟨rfl, _, rfl⟩
          · have d1 : ¬ (i : Int) < s.size := by omega
            have d2 : decide ((i : Int) < s.size) = false := decide_eq_false d1
            have hvv : v = false := by
              rw [hv]; unfold stepOn; rw [hdv, List.getElem?_eq_none (by simp; omega)]
              simp
            subst hvv
            clear hdj hv HV hdv
            go_quiet ((go_at_call 95; refine (hdi _).mono ?_; rintro e w' ⟨rfl, rfl⟩; exact ⟨rfl, _, rfl⟩))
            go_wp2_with fail
            go_meet
            exact ⟨rfl, _, rfl⟩
      case rest =>
        obtain ⟨rfl, n, rfl⟩ := hcut
        clear hdi hdj hv
        cases v with
        | true =>
          have hi2 : i < s.size := by
            have h := HV.out
            by_cases h2 : i < s.size
            · exact h2
            · unfold stepOn at h
              rw [digAt_out s base i (by omega), List.getElem?_eq_none (by simp; omega)] at h
              simp at h
          have hR2 : E = runIdx (stepOn base s.data.toList) (s.size - (i + 1)) (i + 1) := by
            have := hR.out
            rw [show s.size - i = (s.size - (i + 1)) + 1 by omega] at this
            unfold runIdx at this
            rw [if_pos HV.out.symm] at this
            exact this
          have hR2 := Lib.hid hR2
          have hC2 := Lib.hid ((HCi.out.keep (w' := wr.drewN n) rfl).move (i + 1) (by omega))
          have hB2 := Lib.hid ((below_drewN hBw n).setCell (p := ⟨b, 0, none⟩) hB (.int .i64 ((i : Int) + 1)))
          have w1 : IntKind.i64.wrap ((i : Int) + 1) = (i : Int) + 1 := by rw [IntKind.wrap_i64]; omega
          clear HCi hBw hR
          go_wp2
          go_roundg (s.size - (i + 1))
          case measure => omega
          case rel => exact ⟨i + 1, rfl, by omega, hC2.out, hB2.out, hR2⟩
        | false =>
          have hEi : E = i := by
            have := hR.out
            by_cases h2 : i < s.size
            · rw [show s.size - i = (s.size - (i + 1)) + 1 by omega] at this
              unfold runIdx at this
              rw [if_neg (by rw [← HV.out]; decide)] at this
              exact this
            · rw [show s.size - i = 0 by omega] at this
              exact this
          have HE := Lib.hid hEi
          clear hEi
          go_wp2
          go_ret
          exact ⟨rfl, by rw [HE.out]; exact HCi.out.keep rfl, below_drewN hBw n⟩
end Go.Proofs.YtoffjpgobhcipaaDoor.Num

/-
  Layer 5: contracts of number.take, isRow and whole.
-/
namespace Go.Proofs.YtoffjpgobhcipaaDoor.Num
open Go.ChangeShapes Go.WideShapes Go.ChangeAt Go.RowKit

theorem indexByte_has (c : UInt8) : ∀ l : List UInt8, decide (Lib.indexByte l c < 0) = !l.contains c
  | [] => by simp [Lib.indexByte]
  | b :: l => by
    have ih := indexByte_has c l
    have hg := Lib.indexByte_ge l c
    unfold Lib.indexByte
    by_cases h : b = c
    · subst h; simp
    · have h1 : (b == c) = false := by simpa using h
      have h2 : (c == b) = false := by simpa using fun e => h e.symm
      rw [h1, List.contains_cons, h2, Bool.false_or, ← ih]
      by_cases h3 : Lib.indexByte l c = -1
      · rw [h3]; rfl
      · have h4 : (Lib.indexByte l c == -1) = false := by simpa using h3
        rw [h4]
        simp only [Bool.false_eq_true, if_false]
        rw [Bool.eq_iff_iff, decide_eq_true_eq, decide_eq_true_eq]
        omega
/-- is there at a place one of some bytes? -/
def hits (some' : List UInt8) (l : List UInt8) (k : Nat) : Bool := match l[k]? with | none => false | some c => some'.contains c

set_option maxHeartbeats 1000000 in
theorem take_any (s sm : ByteArray) (hs : s.size ≤ 4611686018427387904) (b q p d k B : Nat) (hB : B ≤ b) (w : World) (hC : Cur w b q p d s k) :
    Calls Tryd.prog 93 #[.string s, .pointer (some ⟨b, 0, none⟩), .string sm] w fun e w' => e = .returned (.bool (hits sm.data.toList s.data.toList k)) ∧ Cur w' b q p d s (if hits sm.data.toList s.data.toList k then k + 1 else k) ∧ Below B w w' := by
  have cb := cell_of hC.cb
  have fb := frozen_of hC.cb
  have hk := hC.hk
  have HC := Lib.hid hC
  clear hC
  by_cases hlt : k < s.size
  · have hh : hits sm.data.toList s.data.toList k = sm.data.toList.contains s[k] := by unfold hits; rw [at_of s k hlt]
    have hi := indexByte_has s[k] sm.data.toList
    have hix := fun w => Tryd.strings_IndexByte sm (s[k].toNat : Int) w
    rw [show ((s[k].toNat : Int)).toNat.toUInt8 = s[k] by simp] at hix
    obtain ⟨I, hI⟩ : ∃ I, I = Lib.indexByte sm.data.toList s[k] := ⟨_, rfl⟩
    rw [← hI] at hi hix
    rw [hh]
    cases hc : sm.data.toList.contains s[k] with
    | true =>
      rw [hc] at hi
      have hi2 : ¬ I < 0 := of_decide_eq_false hi
      have hC2 := Lib.hid (HC.out.move (k + 1) (by omega))
      have hB2 := Lib.hid ((Below.refl B w).setCell (p := ⟨b, 0, none⟩) hB (.int .i64 ((k : Int) + 1)))
      have d1 : ¬ (s.size : Int) ≤ k := by omega
      clear hh hi hI hc
      go_enter Tryd.func93, Tryd.ntmps93
      go_wp2_with (go_at_call 90; refine (hix _).mono ?_; rintro e w1 ⟨rfl, hw⟩; rw [hw]; clear hw w1)
      go_ret
      exact ⟨rfl, hC2.out, hB2.out⟩
    | false =>
      rw [hc] at hi
      have hi2 : I < 0 := of_decide_eq_true hi
      have d1 : ¬ (s.size : Int) ≤ k := by omega
      clear hh hi hI hc
      go_enter Tryd.func93, Tryd.ntmps93
      go_wp2_with (go_at_call 90; refine (hix _).mono ?_; rintro e w1 ⟨rfl, hw⟩; rw [hw]; clear hw w1)
      go_ret
      exact ⟨rfl, HC.out, Below.refl _ _⟩
  · have hh : hits sm.data.toList s.data.toList k = false := by unfold hits; rw [List.getElem?_eq_none (by simp; omega)]
    have d1 : (s.size : Int) ≤ k := by omega
    rw [hh]
    clear hh
    go_enter Tryd.func93, Tryd.ntmps93
    go_wp2
    go_ret
    exact ⟨rfl, HC.out, Below.refl _ _⟩

theorem rows_ex (s : ByteArray) (b k : Nat) (hk : k ≤ s.size) (w : World) (hb : w.heap[b]? = some (.cells #[.int .i64 k] 3 (0, 0))) :
    Calls Tryd.prog 85 #[.string s, .pointer (some ⟨b, 0, none⟩)] w fun e w' => ∃ q p d : Nat, e = .returned (.func (.func 97) #[] #[.pointer (some ⟨d, 0, none⟩), .pointer (some ⟨p, 0, none⟩), .pointer (some ⟨q, 0, none⟩)]) ∧
      Cur w' b q p d s k ∧ Below w.heap.size w w' :=
  (rows_any s b k hk w hb).mono fun _ _ h => ⟨_, _, _, h⟩
/-- is a text a row as the program has it? -/
def isRow? (base : Nat) (l : List UInt8) : Bool := digAt base l 0 && decide (rowEnd base l 0 = l.length)
set_option maxHeartbeats 1000000 in
theorem isRow_any (s : ByteArray) (hs : s.size ≤ 4611686018427387904) (base : Nat) (w : World) :
    Calls Tryd.prog 70 #[.string s, .int .i64 base] w fun e w' => e = .returned (.bool (isRow? base s.data.toList)) ∧ Below w.heap.size w w' := by
  have hlen : s.data.toList.length = s.size := by simp
  have hnew : (w.alloc (.cells #[.int .i64 0] 3)).heap[w.heap.size]? = some (.cells #[.int .i64 ((0 : Nat) : Int)] 3 (0, 0)) := by
    show (w.heap.push _)[w.heap.size]? = _
    simp
  have hA : Below w.heap.size w (w.alloc (.cells #[.int .i64 0] 3)) := (Below.refl _ w).alloc (Nat.le_refl _) _
  have hrows := rows_ex s w.heap.size 0 (Nat.zero_le _) _ hnew
  have HS := Lib.hid (hA.size)
  obtain ⟨v, hv⟩ : ∃ v, v = isRow? base s.data.toList := ⟨_, rfl⟩
  rw [← hv]
  unfold isRow? at hv
  rw [hlen] at hv
  clear hlen
  cases hd : digAt base s.data.toList 0 with
  | false =>
    rw [hd, Bool.false_and] at hv
    subst hv
    go_enter Tryd.func70, Tryd.ntmps70
    go_wp2_with (first
      | (go_at_call 85; refine hrows.mono ?_; rintro e w1 ⟨q, p, d, rfl, hC, hB⟩; replace hA := hA.trans (hB.mono HS.out); clear hB)
      | (go_at_call 97; refine (row_c s hs base _ _ _ _ 0 w.heap.size (Nat.le_refl _) _ hC).mono ?_; rintro e w2 ⟨he, hC2, hB⟩; rw [hd] at he; subst he; replace hA := hA.trans hB; clear hB hC))
    go_ret
    exact ⟨rfl, hA⟩
  | true =>
    rw [hd, Bool.true_and] at hv
    obtain ⟨E, hE⟩ : ∃ E, E = rowEnd base s.data.toList 0 := ⟨_, rfl⟩
    rw [← hE] at hv
    have HE := Lib.hid hE
    have HV := Lib.hid hv
    clear hE hv
    go_enter Tryd.func70, Tryd.ntmps70
    go_wp2_with (first
      | (go_at_call 85; refine hrows.mono ?_; rintro e w1 ⟨q, p, d, rfl, hC, hB⟩; replace hA := hA.trans (hB.mono HS.out); clear hB)
      | (go_at_call 97; refine (row_c s hs base _ _ _ _ 0 w.heap.size (Nat.le_refl _) _ hC).mono ?_; rintro e w2 ⟨he, hC2, hB⟩; rw [hd] at he; subst he; replace hA := hA.trans hB; rw [← HE.out] at hC2; have c2 := cell_of hC2.cb; have hEs := hC2.hk; clear hB hC hC2))
    go_ret
    exact ⟨ret_bool (by rw [HV.out, Bool.eq_iff_iff]; simp; omega), hA⟩
end Go.Proofs.YtoffjpgobhcipaaDoor.Num

/-
  Layer 5: contracts of number.whole and decimal.
-/
namespace Go.Proofs.YtoffjpgobhcipaaDoor.Num
open Go.ChangeShapes Go.WideShapes Go.ChangeAt Go.RowKit

/-- what stands behind the sign of a base, as the program has it -/
def wholeP (base : Nat) (l : List UInt8) : Nat := if isRow? base (Lib.trimPrefix l [95]) then 3 else 0
theorem trim_short (l p : List UInt8) : (Lib.trimPrefix l p).length ≤ l.length := by
  unfold Lib.trimPrefix
  split
  · simp
  · exact Nat.le_refl _
set_option maxHeartbeats 1000000 in
theorem whole_any (s : ByteArray) (hs : s.size ≤ 4611686018427387904) (base : Nat) (w : World) :
    Calls Tryd.prog 83 #[.string s, .int .i64 base] w fun e w' => e = .returned (.int .u8 (wholeP base s.data.toList)) ∧ Below w.heap.size w w' := by
  obtain ⟨t, ht⟩ : ∃ t : ByteArray, t = ⟨(Lib.trimPrefix s.data.toList [95]).toArray⟩ := ⟨_, rfl⟩
  have htl : t.data.toList = Lib.trimPrefix s.data.toList [95] := by rw [ht]
  have hts : t.size ≤ 4611686018427387904 := by
    have h1 : t.size = t.data.toList.length := by simp
    have h2 := trim_short s.data.toList [95]
    have h3 : s.data.toList.length = s.size := by simp
    rw [h1, htl]; omega
  have hc := fun w => Tryd.strings_TrimPrefix s ⟨#[95]⟩ w
  rw [show (⟨(Lib.trimPrefix s.data.toList (⟨#[95]⟩ : ByteArray).data.toList).toArray⟩ : ByteArray) = t from ht.symm] at hc
  have hr := isRow_any t hts base
  obtain ⟨v, hv⟩ : ∃ v, v = isRow? base t.data.toList := ⟨_, rfl⟩
  rw [← hv] at hr
  have hw : wholeP base s.data.toList = if v then 3 else 0 := by unfold wholeP; rw [hv, htl]
  rw [hw]
  clear hw hv htl ht
  cases v
  all_goals
    (go_enter Tryd.func83, Tryd.ntmps83
     go_wp2_with (first
      | (go_at_call 94; refine (hc _).mono ?_; rintro e w1 ⟨rfl, hw⟩; rw [hw]; clear hw w1)
      | (go_at_call 70; refine (hr _).mono ?_; rintro e w1 ⟨rfl, hB⟩))
     go_ret
     exact ⟨rfl, hB⟩)

theorem take_dot (s : ByteArray) (hs : s.size ≤ 4611686018427387904) (b q p d k B : Nat) (hB : B ≤ b) (w : World) (hC : Cur w b q p d s k) :
    Calls Tryd.prog 93 #[.string s, .pointer (some ⟨b, 0, none⟩), .string ⟨#[46]⟩] w fun e w' => e = .returned (.bool (hits [46] s.data.toList k)) ∧ Cur w' b q p d s (if hits [46] s.data.toList k then k + 1 else k) ∧ Below B w w' := take_any s ⟨#[46]⟩ hs b q p d k B hB w hC
theorem take_exp (s : ByteArray) (hs : s.size ≤ 4611686018427387904) (b q p d k B : Nat) (hB : B ≤ b) (w : World) (hC : Cur w b q p d s k) :
    Calls Tryd.prog 93 #[.string s, .pointer (some ⟨b, 0, none⟩), .string ⟨#[101, 69]⟩] w fun e w' => e = .returned (.bool (hits [101, 69] s.data.toList k)) ∧ Cur w' b q p d s (if hits [101, 69] s.data.toList k then k + 1 else k) ∧ Below B w w' := take_any s ⟨#[101, 69]⟩ hs b q p d k B hB w hC
theorem take_sign (s : ByteArray) (hs : s.size ≤ 4611686018427387904) (b q p d k B : Nat) (hB : B ≤ b) (w : World) (hC : Cur w b q p d s k) :
    Calls Tryd.prog 93 #[.string s, .pointer (some ⟨b, 0, none⟩), .string ⟨#[43, 45]⟩] w fun e w' => e = .returned (.bool (hits [43, 45] s.data.toList k)) ∧ Cur w' b q p d s (if hits [43, 45] s.data.toList k then k + 1 else k) ∧ Below B w w' := take_any s ⟨#[43, 45]⟩ hs b q p d k B hB w hC

theorem list_is' (b : ByteArray) : b.toList = b.data.toList := by
  unfold ByteArray.toList
  rw [ByteArray.toList_loop_eq b b.size 0 [] (by omega) (by omega)]; simp
/-- where a row or none ends -/
def signEnd (l : List UInt8) (k : Nat) : Nat := if hits [43, 45] l k then k + 1 else k
/-- a text's kind where no sign of a base stands ahead, as the program has it -/
def decP (l : List UInt8) : Nat :=
  let k1 := rowEnd 10 l 0
  let dot := hits [46] l k1
  let k3 := if dot then rowEnd 10 l (k1 + 1) else k1
  let tail := dot && digAt 10 l (k1 + 1)
  let ex := hits [101, 69] l k3
  let k5 := signEnd l (k3 + 1)
  let k6 := if ex then rowEnd 10 l k5 else k3
  if ex && !digAt 10 l k5 then 0
  else if (!digAt 10 l 0 && !tail) || decide (k6 < l.length) then 0
  else if dot || ex then 4
  else if decide (l = [48]) || !decide (l.head? = some 48) then 3
  else wholeP 8 (l.drop 1)

set_option maxHeartbeats 4000000 in
theorem decimal_any (s : ByteArray) (hs : s.size ≤ 4611686018427387904) (w : World) :
    Calls Tryd.prog 82 #[.string s] w fun e w' => e = .returned (.int .u8 (decP s.data.toList)) ∧ Below w.heap.size w w' := by
  have hlen : s.data.toList.length = s.size := by simp
  have hnew : (w.alloc (.cells #[.int .i64 0] 3)).heap[w.heap.size]? = some (.cells #[.int .i64 ((0 : Nat) : Int)] 3 (0, 0)) := by
    show (w.heap.push _)[w.heap.size]? = _
    simp
  have hA : Below w.heap.size w (w.alloc (.cells #[.int .i64 0] 3)) := (Below.refl _ w).alloc (Nat.le_refl _) _
  have hrows := rows_ex s w.heap.size 0 (Nat.zero_le _) _ hnew
  have HS := Lib.hid (hA.size)
  obtain ⟨R, hR⟩ : ∃ R, R = decP s.data.toList := ⟨_, rfl⟩
  rw [← hR]
  unfold decP at hR
  dsimp only at hR
  obtain ⟨head, hhead⟩ : ∃ v, v = digAt 10 s.data.toList 0 := ⟨_, rfl⟩
  obtain ⟨k1, hk1⟩ : ∃ v, v = rowEnd 10 s.data.toList 0 := ⟨_, rfl⟩
  rw [← hhead, ← hk1] at hR
  obtain ⟨dot, hdot⟩ : ∃ v, v = hits [46] s.data.toList k1 := ⟨_, rfl⟩
  rw [← hdot] at hR
  obtain ⟨k3, hk3⟩ : ∃ v, v = if dot then rowEnd 10 s.data.toList (k1 + 1) else k1 := ⟨_, rfl⟩
  obtain ⟨tail, htail⟩ : ∃ v, v = (dot && digAt 10 s.data.toList (k1 + 1)) := ⟨_, rfl⟩
  rw [← hk3, ← htail] at hR
  obtain ⟨ex, hex⟩ : ∃ v, v = hits [101, 69] s.data.toList k3 := ⟨_, rfl⟩
  obtain ⟨k5, hk5⟩ : ∃ v, v = signEnd s.data.toList (k3 + 1) := ⟨_, rfl⟩
  rw [← hex, ← hk5] at hR
  obtain ⟨k6, hk6⟩ : ∃ v, v = if ex then rowEnd 10 s.data.toList k5 else k3 := ⟨_, rfl⟩
  obtain ⟨d5, hd5⟩ : ∃ v, v = digAt 10 s.data.toList k5 := ⟨_, rfl⟩
  rw [← hk6, ← hd5, hlen] at hR
  have HR := Lib.hid hR
  have H1 := Lib.hid hhead
  have H2 := Lib.hid hk1
  have H3 := Lib.hid hdot
  have H4 := Lib.hid hk3
  have H5 := Lib.hid htail
  have H6 := Lib.hid hex
  have H7 := Lib.hid hk5
  have H8 := Lib.hid hk6
  have H9 := Lib.hid hd5
  clear hR hhead hk1 hdot hk3 htail hex hk5 hk6 hd5 hlen
  go_enter Tryd.func82, Tryd.ntmps82
  go_upto_region 5 with (first
      | (go_at_call 85; refine hrows.mono ?_; rintro e w1 ⟨q, p, d, rfl, hC, hB⟩; replace hA := hA.trans (hB.mono HS.out); clear hB)
      | (go_at_call 97; refine (row_c s hs 10 _ _ _ _ 0 w.heap.size (Nat.le_refl _) _ hC).mono ?_; rintro e w2 ⟨he, hC2, hB⟩; rw [← H1.out] at he; subst he; rw [← H2.out] at hC2; replace hA := hA.trans hB; clear hB hC)
      | (go_at_call 93; refine (take_dot s hs _ _ _ _ k1 w.heap.size (Nat.le_refl _) _ hC2).mono ?_; rintro e w3 ⟨he, hC3, hB⟩; rw [← H3.out] at he hC3; subst he; replace hA := hA.trans hB; clear hB hC2))
  clear hrows
  go_cut [7] from 14 to 18 (fun v wx => v = .bool tail ∧ Cur wx w.heap.size q p d s k3 ∧ Below w.heap.size w wx)
  case first =>
    cases dot with
    | false =>
      have e3 : k3 = k1 := H4.out
      have et : tail = false := H5.out
      subst et
      have HC := Lib.hid hC3
      have he3 := Lib.hid e3
      clear hC3 e3
      go_wp2
      go_meet
      exact ⟨rfl, by rw [he3.out]; exact HC.out, hA⟩
    | true =>
      have e3 : k3 = rowEnd 10 s.data.toList (k1 + 1) := H4.out
      have et : tail = digAt 10 s.data.toList (k1 + 1) := by rw [H5.out]; rfl
      have he3 := Lib.hid e3
      have het := Lib.hid et
      clear e3 et
      go_wp2_with (go_at_call 97; refine (row_c s hs 10 _ _ _ _ (k1 + 1) w.heap.size (Nat.le_refl _) _ hC3).mono ?_; rintro e w4 ⟨he, hC4, hB⟩; rw [← het.out] at he; subst he; rw [← he3.out] at hC4; replace hA := hA.trans hB; clear hB hC3)
      go_meet
      exact ⟨rfl, hC4, hA⟩
  case rest =>
    obtain ⟨rfl, hC, hA⟩ := hcut
    go_upto_if 20 with (go_at_call 93; refine (take_exp s hs _ _ _ _ k3 w.heap.size (Nat.le_refl _) _ hC).mono ?_; rintro e w3 ⟨he, hC5, hB⟩; rw [← H6.out] at he hC5; subst he; replace hA := hA.trans hB; clear hB hC)
    cases hx : (ex && !d5) with
    | true =>
      have hx2 := hx
      rw [Bool.and_eq_true] at hx2
      obtain ⟨hx3, hx4⟩ := hx2
      have hd5 : d5 = false := by simpa using hx4
      subst hx3
      subst hd5
      have hRz : R = 0 := by rw [HR.out]; rfl
      subst hRz
      clear hx hx4
      go_wp2_with (first
        | (go_at_call 93; refine (take_sign s hs _ _ _ _ (k3 + 1) w.heap.size (Nat.le_refl _) _ hC5).mono ?_; rintro e w5 ⟨he, hC6, hB⟩; subst he; rw [show (if hits [43, 45] s.data.toList (k3 + 1) then k3 + 1 + 1 else k3 + 1) = k5 from H7.out.symm] at hC6; replace hA := hA.trans hB; clear hB hC5)
        | (go_at_call 97; refine (row_c s hs 10 _ _ _ _ k5 w.heap.size (Nat.le_refl _) _ hC6).mono ?_; rintro e w6 ⟨he, hC7, hB⟩; rw [← H9.out] at he; subst he; replace hA := hA.trans hB; clear hB hC6 hC7))
      go_ret
      exact ⟨rfl, hA⟩
    | false =>
      go_cut [6] from 21 to 25 (fun v wx => v = .bool (dot || ex) ∧ Cur wx w.heap.size q p d s k6 ∧ Below w.heap.size w wx)
      case first =>
        cases ex with
        | false =>
          have e6 : k6 = k3 := H8.out
          have he6 := Lib.hid e6
          have HC := Lib.hid hC5
          clear e6 hC5
          go_wp2
          go_meet
          exact ⟨by cases dot <;> rfl, by rw [he6.out]; exact HC.out, hA⟩
        | true =>
          have hd5 : d5 = true := by simpa using hx
          subst hd5
          have e6 : k6 = rowEnd 10 s.data.toList k5 := H8.out
          have he6 := Lib.hid e6
          clear e6 hx
          go_wp2_with (first
            | (go_at_call 93; refine (take_sign s hs _ _ _ _ (k3 + 1) w.heap.size (Nat.le_refl _) _ hC5).mono ?_; rintro e w5 ⟨he, hC6, hB⟩; subst he; rw [show (if hits [43, 45] s.data.toList (k3 + 1) then k3 + 1 + 1 else k3 + 1) = k5 from H7.out.symm] at hC6; replace hA := hA.trans hB; clear hB hC5)
            | (go_at_call 97; refine (row_c s hs 10 _ _ _ _ k5 w.heap.size (Nat.le_refl _) _ hC6).mono ?_; rintro e w6 ⟨he, hC7, hB⟩; rw [← H9.out] at he; subst he; rw [← he6.out] at hC7; replace hA := hA.trans hB; clear hB hC6))
          go_meet
          exact ⟨by cases dot <;> rfl, hC7, hA⟩
      case rest =>
        obtain ⟨rfl, hC, hA⟩ := hcut
        clear hC5
        obtain ⟨br, hbr⟩ : ∃ v, v = (dot || ex) := ⟨_, rfl⟩
        rw [← hbr]
        have c6 := cell_of hC.cb
        have hR2 : R = if ((!head && !tail) || decide (k6 < s.size)) = true then 0 else if br = true then 4 else if (decide (s.data.toList = [48]) || !decide (s.data.toList.head? = some 48)) = true then 3 else wholeP 8 (s.data.toList.drop 1) := by
          rw [HR.out, hx, hbr]; rfl
        have HR2 := Lib.hid hR2
        have HBR := Lib.hid hbr
        clear hC hx hR2 hbr
        by_cases hbad : head = false ∧ tail = false
        · obtain ⟨rfl, rfl⟩ := hbad
          have hRz : R = 0 := by rw [HR2.out]; rfl
          subst hRz
          go_wp2
          go_ret
          exact ⟨rfl, hA⟩
        · by_cases hlt : k6 < s.size
          · have hRz : R = 0 := by rw [HR2.out, decide_eq_true hlt]; simp
            subst hRz
            have d1 : (k6 : Int) < s.size := by omega
            clear hbad
            cases head <;> cases tail
            all_goals
              (go_wp2
               go_ret
               exact ⟨rfl, hA⟩)
          · have d1 : ¬ (k6 : Int) < s.size := by omega
            have hok : ((!head && !tail) || decide (k6 < s.size)) = false := by
              rw [decide_eq_false hlt, Bool.or_false]
              cases head <;> cases tail <;> simp at hbad ⊢
            have HR3 := Lib.hid (show R = if br = true then 4 else if (decide (s.data.toList = [48]) || !decide (s.data.toList.head? = some 48)) = true then 3 else wholeP 8 (s.data.toList.drop 1) by rw [HR2.out, hok]; rfl)
            clear hok
            cases br with
            | true =>
              have hRz : R = 4 := HR3.out
              subst hRz
              cases head <;> cases tail
              case false.false => exact absurd ⟨rfl, rfl⟩ hbad
              all_goals
                (clear hbad
                 go_wp2
                 go_ret
                 exact ⟨rfl, hA⟩)
            | false =>
              have hdf : dot = false := by have := HBR.out; cases dot <;> cases ex <;> simp at this ⊢
              have htf : tail = false := by rw [H5.out, hdf]; rfl
              subst htf
              have hht : head = true := by cases head <;> simp at hbad ⊢
              subst hht
              clear hbad
              have h0 : 0 < s.size := by
                have h := H1.out
                by_cases h2 : 0 < s.size
                · exact h2
                · rw [digAt_out s 10 0 (by omega)] at h; cases h
              have d0 : (0 : Int) < s.size := by omega
              have b0 := bytes_n s[0] 48 48 rfl
              have hh := one_of s h0
              by_cases hq : s.data.toList = [48]
              · have hRz : R = 3 := by rw [HR3.out, decide_eq_true hq]; rfl
                subst hRz
                have hq2 : (s.toList == [48]) = true := by rw [list_is', hq]; rfl
                clear hq hh b0
                go_wp2
                go_ret
                exact ⟨rfl, hA⟩
              · have hq2 : (s.toList == [48]) = false := by rw [list_is']; simpa using hq
                by_cases h48 : s[0] = 48
                · have b1 : ((s[0].toNat : Int) != 48) = false := by rw [bne, b0]; simpa using h48
                  have hRz : R = wholeP 8 (s.extract 1 s.size).data.toList := by
                    rw [HR3.out, hh, h48, decide_eq_false hq, extract_drop]; simp
                  have hz : (s.extract 1 s.size).size ≤ 4611686018427387904 := by simp; omega
                  have hwc := whole_any _ hz 8
                  rw [← hRz] at hwc
                  clear hq hh b0 h48 hRz
                  go_wp2_with (go_at_call 83; refine (hwc _).mono ?_; rintro e w7 ⟨rfl, hB⟩; replace hA := hA.trans (hB.mono hA.size); clear hB)
                  go_ret
                  exact ⟨rfl, hA⟩
                · have b1 : ((s[0].toNat : Int) != 48) = true := by rw [bne, b0]; simpa using h48
                  have hRz : R = 3 := by
                    rw [HR3.out, hh, decide_eq_false hq]; simp [h48]
                  subst hRz
                  clear hq hh b0 h48
                  go_wp2
                  go_ret
                  exact ⟨rfl, hA⟩
end Go.Proofs.YtoffjpgobhcipaaDoor.Num

/-
  Layer 5: contract of number.sixteen.
-/
namespace Go.Proofs.YtoffjpgobhcipaaDoor.Num
open Go.ChangeShapes Go.WideShapes Go.ChangeAt Go.RowKit

theorem take_bar (s : ByteArray) (hs : s.size ≤ 4611686018427387904) (b q p d k B : Nat) (hB : B ≤ b) (w : World) (hC : Cur w b q p d s k) :
    Calls Tryd.prog 93 #[.string s, .pointer (some ⟨b, 0, none⟩), .string ⟨#[95]⟩] w fun e w' => e = .returned (.bool (hits [95] s.data.toList k)) ∧ Cur w' b q p d s (if hits [95] s.data.toList k then k + 1 else k) ∧ Below B w w' := take_any s ⟨#[95]⟩ hs b q p d k B hB w hC
theorem take_pow (s : ByteArray) (hs : s.size ≤ 4611686018427387904) (b q p d k B : Nat) (hB : B ≤ b) (w : World) (hC : Cur w b q p d s k) :
    Calls Tryd.prog 93 #[.string s, .pointer (some ⟨b, 0, none⟩), .string ⟨#[112, 80]⟩] w fun e w' => e = .returned (.bool (hits [112, 80] s.data.toList k)) ∧ Cur w' b q p d s (if hits [112, 80] s.data.toList k then k + 1 else k) ∧ Below B w w' := take_any s ⟨#[112, 80]⟩ hs b q p d k B hB w hC

/-- the kind of what stands behind 0x, as the program has it -/
def hexP (l : List UInt8) : Nat :=
  let lead := hits [95] l 0
  let k1 := if lead then 0 + 1 else 0
  let head := digAt 16 l k1
  let k2 := rowEnd 16 l k1
  let dot := hits [46] l k2
  let k4 := if dot then rowEnd 16 l (k2 + 1) else k2
  let tail := dot && digAt 16 l (k2 + 1)
  let ex := hits [112, 80] l k4
  let k5 := signEnd l (k4 + 1)
  let k6 := rowEnd 10 l k5
  if !head && (lead || !tail) then 0
  else if decide (k4 = l.length) && !dot then 3
  else if !ex then 0
  else if !digAt 10 l k5 || decide (k6 < l.length) then 0
  else 4

set_option maxHeartbeats 4000000 in
theorem sixteen_any (s : ByteArray) (hs : s.size ≤ 4611686018427387904) (w : World) :
    Calls Tryd.prog 84 #[.string s] w fun e w' => e = .returned (.int .u8 (hexP s.data.toList)) ∧ Below w.heap.size w w' := by
  have hlen : s.data.toList.length = s.size := by simp
  have hnew : (w.alloc (.cells #[.int .i64 0] 3)).heap[w.heap.size]? = some (.cells #[.int .i64 ((0 : Nat) : Int)] 3 (0, 0)) := by
    show (w.heap.push _)[w.heap.size]? = _
    simp
  have hA : Below w.heap.size w (w.alloc (.cells #[.int .i64 0] 3)) := (Below.refl _ w).alloc (Nat.le_refl _) _
  have hrows := rows_ex s w.heap.size 0 (Nat.zero_le _) _ hnew
  have HS := Lib.hid (hA.size)
  obtain ⟨R, hR⟩ : ∃ R, R = hexP s.data.toList := ⟨_, rfl⟩
  rw [← hR]
  unfold hexP at hR
  dsimp only at hR
  obtain ⟨lead, hlead⟩ : ∃ v, v = hits [95] s.data.toList 0 := ⟨_, rfl⟩
  rw [← hlead] at hR
  obtain ⟨k1, hk1⟩ : ∃ v, v = if lead then 0 + 1 else 0 := ⟨_, rfl⟩
  rw [← hk1] at hR
  obtain ⟨head, hhead⟩ : ∃ v, v = digAt 16 s.data.toList k1 := ⟨_, rfl⟩
  obtain ⟨k2, hk2⟩ : ∃ v, v = rowEnd 16 s.data.toList k1 := ⟨_, rfl⟩
  rw [← hhead, ← hk2] at hR
  obtain ⟨dot, hdot⟩ : ∃ v, v = hits [46] s.data.toList k2 := ⟨_, rfl⟩
  rw [← hdot] at hR
  obtain ⟨k4, hk4⟩ : ∃ v, v = if dot then rowEnd 16 s.data.toList (k2 + 1) else k2 := ⟨_, rfl⟩
  obtain ⟨tail, htail⟩ : ∃ v, v = (dot && digAt 16 s.data.toList (k2 + 1)) := ⟨_, rfl⟩
  rw [← hk4, ← htail] at hR
  obtain ⟨ex, hex⟩ : ∃ v, v = hits [112, 80] s.data.toList k4 := ⟨_, rfl⟩
  obtain ⟨k5, hk5⟩ : ∃ v, v = signEnd s.data.toList (k4 + 1) := ⟨_, rfl⟩
  rw [← hex, ← hk5] at hR
  obtain ⟨k6, hk6⟩ : ∃ v, v = rowEnd 10 s.data.toList k5 := ⟨_, rfl⟩
  obtain ⟨d5, hd5⟩ : ∃ v, v = digAt 10 s.data.toList k5 := ⟨_, rfl⟩
  rw [← hk6, ← hd5, hlen] at hR
  have HR := Lib.hid hR
  have H1 := Lib.hid hlead
  have H2 := Lib.hid hk1
  have H3 := Lib.hid hhead
  have H4 := Lib.hid hk2
  have H5 := Lib.hid hdot
  have H6 := Lib.hid hk4
  have H7 := Lib.hid htail
  have H8 := Lib.hid hex
  have H9 := Lib.hid hk5
  have Ha := Lib.hid hk6
  have Hb := Lib.hid hd5
  clear hR hlead hk1 hhead hk2 hdot hk4 htail hex hk5 hk6 hd5 hlen
  go_enter Tryd.func84, Tryd.ntmps84
  go_upto_region 6 with (first
      | (go_at_call 85; refine hrows.mono ?_; rintro e w1 ⟨q, p, d, rfl, hC, hB⟩; replace hA := hA.trans (hB.mono HS.out); clear hB)
      | (go_at_call 93; refine (take_bar s hs _ _ _ _ 0 w.heap.size (Nat.le_refl _) _ hC).mono ?_; rintro e w3 ⟨he, hC2, hB⟩; rw [← H1.out] at he hC2; subst he; rw [← H2.out] at hC2; replace hA := hA.trans hB; clear hB hC)
      | (go_at_call 97; refine (row_c s hs 16 _ _ _ _ k1 w.heap.size (Nat.le_refl _) _ hC2).mono ?_; rintro e w2 ⟨he, hC3, hB⟩; rw [← H3.out] at he; subst he; rw [← H4.out] at hC3; replace hA := hA.trans hB; clear hB hC2)
      | (go_at_call 93; refine (take_dot s hs _ _ _ _ k2 w.heap.size (Nat.le_refl _) _ hC3).mono ?_; rintro e w3 ⟨he, hC4, hB⟩; rw [← H5.out] at he hC4; subst he; replace hA := hA.trans hB; clear hB hC3))
  clear hrows
  go_cut [8] from 17 to 21 (fun v wx => v = .bool tail ∧ Cur wx w.heap.size q p d s k4 ∧ Below w.heap.size w wx)
  case first =>
    cases dot with
    | false =>
      have e3 : k4 = k2 := H6.out
      have et : tail = false := H7.out
      subst et
      have HC := Lib.hid hC4
      have he3 := Lib.hid e3
      clear hC4 e3
      go_wp2
      go_meet
      exact ⟨rfl, by rw [he3.out]; exact HC.out, hA⟩
    | true =>
      have e3 : k4 = rowEnd 16 s.data.toList (k2 + 1) := H6.out
      have et : tail = digAt 16 s.data.toList (k2 + 1) := by rw [H7.out]; rfl
      have he3 := Lib.hid e3
      have het := Lib.hid et
      clear e3 et
      go_wp2_with (go_at_call 97; refine (row_c s hs 16 _ _ _ _ (k2 + 1) w.heap.size (Nat.le_refl _) _ hC4).mono ?_; rintro e w4 ⟨he, hC5, hB⟩; rw [← het.out] at he; subst he; rw [← he3.out] at hC5; replace hA := hA.trans hB; clear hB hC4)
      go_meet
      exact ⟨rfl, hC5, hA⟩
  case rest =>
    obtain ⟨rfl, hC, hA⟩ := hcut
    clear hC4
    go_upto_region 7 with fail
    go_cut [30] from 22 to 30 (fun v wx => v = .bool (!head && (lead || !tail)) ∧ wx = wc)
    case first =>
      clear hC hA
      cases head <;> cases lead <;> cases tail
      all_goals
        (go_wp2
         go_meet
         exact ⟨rfl, rfl⟩)
    case rest =>
    obtain ⟨rfl, rfl⟩ := hcut
    cases hbad : (!head && (lead || !tail)) with
    | true =>
      have hRz : R = 0 := by rw [HR.out, if_pos hbad]
      subst hRz
      clear hbad
      go_wp2
      go_ret
      exact ⟨rfl, hA⟩
    | false =>
      have HR2 := Lib.hid (show R = if (decide (k4 = s.size) && !dot) = true then 3 else if (!ex) = true then 0 else if (!d5 || decide (k6 < s.size)) = true then 0 else 4 by rw [HR.out, if_neg (by rw [hbad]; decide)])
      clear hbad
      have c4 := cell_of hC.cb
      have HC := Lib.hid hC
      clear hC
      go_upto_region 9 with fail
      go_cut [38] from 31 to 38 (fun v wx => v = .bool (decide (k4 = s.size) && !dot) ∧ wx = wc)
      case first =>
        clear hA
        by_cases h4 : k4 = s.size
        · have d1 : ((k4 : Int) == s.size) = true := by rw [beq_iff_eq]; omega
          have HD := Lib.hid (show decide (k4 = s.size) = true from decide_eq_true h4)
          clear h4
          cases dot
          all_goals
            (go_wp2
             go_meet
             exact ⟨by rw [HD.out]; rfl, rfl⟩)
        · have d1 : ((k4 : Int) == s.size) = false := by rw [beq_eq_false_iff_ne]; omega
          have HD := Lib.hid (show decide (k4 = s.size) = false from decide_eq_false h4)
          clear h4
          go_wp2
          go_meet
          exact ⟨by rw [HD.out]; rfl, rfl⟩
      case rest =>
      obtain ⟨rfl, rfl⟩ := hcut
      cases hint : (decide (k4 = s.size) && !dot) with
      | true =>
        have hRz : R = 3 := by rw [HR2.out, if_pos hint]
        subst hRz
        clear hint
        go_wp2
        go_ret
        exact ⟨rfl, hA⟩
      | false =>
        have HR3 := Lib.hid (show R = if (!ex) = true then 0 else if (!d5 || decide (k6 < s.size)) = true then 0 else 4 by rw [HR2.out, if_neg (by rw [hint]; decide)])
        have hC := HC.out
        clear hint c4
        cases ex with
        | false =>
          have hRz : R = 0 := HR3.out
          subst hRz
          go_wp2_with (go_at_call 93; refine (take_pow s hs _ _ _ _ k4 w.heap.size (Nat.le_refl _) _ hC).mono ?_; rintro e w3 ⟨he, hC5, hB⟩; rw [← H8.out] at he; subst he; replace hA := hA.trans hB; clear hB hC hC5)
          go_ret
          exact ⟨rfl, hA⟩
        | true =>
          have HX := Lib.hid (show (if hits [112, 80] s.data.toList k4 = true then k4 + 1 else k4) = k4 + 1 by rw [← H8.out]; rfl)
          have HY := Lib.hid (show (if hits [43, 45] s.data.toList (k4 + 1) = true then k4 + 1 + 1 else k4 + 1) = k5 from H9.out.symm)
          have HR4 := Lib.hid (show R = if (!d5 || decide (k6 < s.size)) = true then 0 else 4 from HR3.out)
          cases d5 with
          | false =>
            have hRz : R = 0 := HR4.out
            subst hRz
            go_wp2_with (first
              | (go_at_call 93; refine (take_pow s hs _ _ _ _ k4 w.heap.size (Nat.le_refl _) _ hC).mono ?_; rintro e w3 ⟨he, hC5, hB⟩; rw [← H8.out] at he; subst he; rw [HX.out] at hC5; replace hA := hA.trans hB; clear hB hC)
              | (go_at_call 93; refine (take_sign s hs _ _ _ _ (k4 + 1) w.heap.size (Nat.le_refl _) _ hC5).mono ?_; rintro e w5 ⟨he, hC6, hB⟩; subst he; rw [HY.out] at hC6; replace hA := hA.trans hB; clear hB hC5)
              | (go_at_call 97; refine (row_c s hs 10 _ _ _ _ k5 w.heap.size (Nat.le_refl _) _ hC6).mono ?_; rintro e w6 ⟨he, hC7, hB⟩; rw [← Hb.out] at he; subst he; replace hA := hA.trans hB; clear hB hC6 hC7))
            go_ret
            exact ⟨rfl, hA⟩
          | true =>
            by_cases hlt : k6 < s.size
            · have hRz : R = 0 := by rw [HR4.out, decide_eq_true hlt]; rfl
              subst hRz
              have d1 : (k6 : Int) < s.size := by omega
              go_wp2_with (first
                | (go_at_call 93; refine (take_pow s hs _ _ _ _ k4 w.heap.size (Nat.le_refl _) _ hC).mono ?_; rintro e w3 ⟨he, hC5, hB⟩; rw [← H8.out] at he; subst he; rw [HX.out] at hC5; replace hA := hA.trans hB; clear hB hC)
                | (go_at_call 93; refine (take_sign s hs _ _ _ _ (k4 + 1) w.heap.size (Nat.le_refl _) _ hC5).mono ?_; rintro e w5 ⟨he, hC6, hB⟩; subst he; rw [HY.out] at hC6; replace hA := hA.trans hB; clear hB hC5)
                | (go_at_call 97; refine (row_c s hs 10 _ _ _ _ k5 w.heap.size (Nat.le_refl _) _ hC6).mono ?_; rintro e w6 ⟨he, hC7, hB⟩; rw [← Hb.out] at he; rw [← Ha.out] at hC7; have c7 := cell_of hC7.cb; subst he; replace hA := hA.trans hB; clear hB hC6 hC7))
              go_ret
              exact ⟨rfl, hA⟩
            · have hRz : R = 4 := by rw [HR4.out, decide_eq_false hlt]; rfl
              subst hRz
              have d1 : ¬ (k6 : Int) < s.size := by omega
              go_wp2_with (first
                | (go_at_call 93; refine (take_pow s hs _ _ _ _ k4 w.heap.size (Nat.le_refl _) _ hC).mono ?_; rintro e w3 ⟨he, hC5, hB⟩; rw [← H8.out] at he; subst he; rw [HX.out] at hC5; replace hA := hA.trans hB; clear hB hC)
                | (go_at_call 93; refine (take_sign s hs _ _ _ _ (k4 + 1) w.heap.size (Nat.le_refl _) _ hC5).mono ?_; rintro e w5 ⟨he, hC6, hB⟩; subst he; rw [HY.out] at hC6; replace hA := hA.trans hB; clear hB hC5)
                | (go_at_call 97; refine (row_c s hs 10 _ _ _ _ k5 w.heap.size (Nat.le_refl _) _ hC6).mono ?_; rintro e w6 ⟨he, hC7, hB⟩; rw [← Hb.out] at he; rw [← Ha.out] at hC7; have c7 := cell_of hC7.cb; subst he; replace hA := hA.trans hB; clear hB hC6 hC7))
              go_ret
              exact ⟨rfl, hA⟩
end Go.Proofs.YtoffjpgobhcipaaDoor.Num
