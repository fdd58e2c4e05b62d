/-
  Layer 11: contract of term.Check.
-/
import Derived.Test.YtoffjpgobhcipaaDoorIi
namespace Go.Proofs.YtoffjpgobhcipaaDoor.Trm
open Go.ChangeShapes Go.WideShapes Go.ChangeAt Go.RowKit

def WordsFit (l : List Pt) : Prop := ∀ x ∈ l, x.word.size ≤ 140737488351232
/-- is a part as its kind asks? -/
def goodP (p : Pt) : Bool := decide (leastK p.kind ≤ p.kids) && decide (p.kids ≤ mostK p.kind) && mayP p.kind p.word.data.toList
def checkP (l : List Pt) : Int := if wellB (kidsP l) && l.all goodP then 0 else 8
theorem all_step {l : List Pt} {i : Nat} {x : Pt} (hx : l[i]? = some x) (h : (l.take i).all goodP = true) (hg : goodP x = true) : (l.take (i + 1)).all goodP = true := by
  rw [List.take_add_one, hx, List.all_append, h]; simpa using hg
theorem all_fail {l : List Pt} {i : Nat} {x : Pt} (hx : l[i]? = some x) (hg : goodP x = false) : l.all goodP = false := by
  rw [List.all_eq_false]
  exact ⟨x, List.mem_of_getElem? hx, by rw [hg]; decide⟩
set_option maxHeartbeats 8000000 in
theorem check_any (w : World) (a : Option Addr) (n cap : Nat) (l : List Pt) (hl : Parts w a n l) (hn : n ≤ 4398046511104) (hW : WordsFit l) :
    Calls Tryd.prog 14 #[.slice a n cap] w fun e w' => e = .returned (.int .i64 (checkP l)) ∧ Below w.heap.size w w' := by
  have hw := well_any w a n cap l hl hn
  cases hwb : wellB (kidsP l) with
  | false =>
    rw [hwb] at hw
    have hc : checkP l = 8 := by unfold checkP; rw [hwb]; rfl
    rw [hc]
    clear hl hwb hc
    go_enter Tryd.func14, Tryd.ntmps14
    go_wp2_with (go_at_call 10; refine hw.mono ?_; rintro e w1 ⟨rfl, hB⟩)
    go_ret
    exact ⟨rfl, hB⟩
  | true =>
    rw [hwb] at hw
    have HC : Hid (checkP l = if l.all goodP then 0 else 8) := Lib.hid (by unfold checkP; rw [hwb, Bool.true_and])
    have HL := Lib.hid hl
    have HLN := Lib.hid hl.1
    clear hl hwb
    go_enter Tryd.func14, Tryd.ntmps14
    go_wp2_with (go_at_call 10; refine hw.mono ?_; rintro e w1 ⟨rfl, hB⟩; have HB1 := Lib.hid hB; clear hB)
    clear hw
    go_loopw [4, 5, 6, 12] (fun _ _ _ t wr => ∃ i : Nat, i ≤ n ∧ t = .int .i64 i ∧ Hid ((l.take i).all goodP = true) ∧ Hid (Below w.heap.size w wr)) (fun _ _ _ t _ => n - (intOf t).toNat)
    case atStart => exact ⟨0, Nat.zero_le _, rfl, Lib.hid rfl, HB1⟩
    case round =>
      obtain ⟨i, hi, rfl, HT, HB⟩ := hrel
      by_cases hlt : i < n
      · have hx := parts_some (parts_below HL.out HB.out) hlt
        obtain ⟨g, off, rfl, c0, c1, c2⟩ := (parts_below HL.out HB.out).2 i _ hx
        have HX := Lib.hid hx
        have hwf := hW _ (List.mem_of_getElem? hx)
        generalize l.getD i pt0 = x at c0 c1 c2 HX hwf
        clear hx
        have hk := fun w => kidsOf_any x.kind w
        have hm := fun w => mayHave_any x.kind x.word hwf w
        have hg0 : Hid (goodP x = (decide (leastK x.kind ≤ x.kids) && decide (x.kids ≤ mostK x.kind) && mayP x.kind x.word.data.toList)) := Lib.hid rfl
        generalize leastK x.kind = lo at hk hg0
        generalize mostK x.kind = hi2 at hk hg0
        generalize mayP x.kind x.word.data.toList = mv at hm hg0
        have hB2 := Lib.hid (HB.out.alloc HB.out.size (.cells #[.int .u8 x.kind, .int .i64 x.kids, .string x.word] 33))
        by_cases k1 : x.kids < lo
        · have d1 : decide (x.kids < lo) = true := decide_eq_true k1
          have HF : Hid (checkP l = 8) := Lib.hid (by rw [HC.out, all_fail HX.out (by rw [hg0.out, decide_eq_false (by omega)]; rfl)]; rfl)
          clear k1 hm hg0
          go_wp2_with (go_at_call 31; refine (hk _).mono ?_; rintro e w2 ⟨rfl, rfl⟩)
          go_ret
          exact ⟨ret_int HF.out.symm, hB2.out⟩
        · have d1 : decide (x.kids < lo) = false := decide_eq_false k1
          by_cases k2 : hi2 < x.kids
          · have d2 : decide (hi2 < x.kids) = true := decide_eq_true k2
            have HF : Hid (checkP l = 8) := Lib.hid (by rw [HC.out, all_fail HX.out (by rw [hg0.out, decide_eq_false (p := x.kids ≤ hi2) (by omega)]; simp)]; rfl)
            clear k1 k2 hm hg0
            go_wp2_with (go_at_call 31; refine (hk _).mono ?_; rintro e w2 ⟨rfl, rfl⟩)
            go_ret
            exact ⟨ret_int HF.out.symm, hB2.out⟩
          · have d2 : decide (hi2 < x.kids) = false := decide_eq_false k2
            have HG : Hid (goodP x = mv) := Lib.hid (by rw [hg0.out, decide_eq_true (by omega), decide_eq_true (by omega)]; simp)
            clear k1 k2 hg0
            cases mv with
            | false =>
              have HF : Hid (checkP l = 8) := Lib.hid (by rw [HC.out, all_fail HX.out HG.out]; rfl)
              go_wp2_with (first
                | (go_at_call 31; refine (hk _).mono ?_; rintro e w2 ⟨rfl, rfl⟩)
                | (go_at_call 32; refine (hm _).mono ?_; rintro e w3 ⟨rfl, hB3⟩))
              go_ret
              exact ⟨ret_int HF.out.symm, hB2.out.trans (hB3.mono hB2.out.size)⟩
            | true =>
              have HT2 := Lib.hid (all_step HX.out HT.out HG.out)
              go_wp2_with (first
                | (go_at_call 31; refine (hk _).mono ?_; rintro e w2 ⟨rfl, rfl⟩)
                | (go_at_call 32; refine (hm _).mono ?_; rintro e w3 ⟨rfl, hB3⟩))
              go_roundw
              case rel => exact ⟨i + 1, hlt, by go_num, HT2, Lib.hid (hB2.out.trans (hB3.mono hB2.out.size))⟩
              case measure => simp [intOf]; omega
      · obtain rfl : i = n := by omega
        have HF : Hid (checkP l = 0) := Lib.hid (by
          have h := HT.out
          rw [← HLN.out, List.take_length] at h
          rw [HC.out, h]; rfl)
        go_wp2
        go_ret
        exact ⟨ret_int HF.out.symm, HB.out⟩
end Go.Proofs.YtoffjpgobhcipaaDoor.Trm
