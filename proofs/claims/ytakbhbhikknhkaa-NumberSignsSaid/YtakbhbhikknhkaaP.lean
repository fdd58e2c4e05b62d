/-
  Layer 5: contract of the closure that goes on behind a row.
-/
import Derived.Test.YtakbhbhikknhkaaF
import Derived.Test.YtakbhbhikknhkaaO
import Derived.Deep.LoopGhost
import Derived.Deep.CutRange
import Derived.Deep.DeepCutAuto
import Derived.IntWalk
import Derived.Deep.RegionWith
namespace Go.Proofs.Ytakbhbhikknhkaa
open Go.ChangeShapes Go.WideShapes Go.ChangeAt Go.RowKit

/-- does a row go on at a place? -/
def stepOn (base : Nat) (l : List UInt8) (i : Nat) : Bool := digAt base l i || (decide (l[i]? = some 95) && digAt base l (i + 1))
def runIdx (f : Nat → Bool) : Nat → Nat → Nat
  | 0, i => i
  | n + 1, i => if f i then runIdx f n (i + 1) else i
/-- where a row ends that begins at a place -/
def rowEnd (base : Nat) (l : List UInt8) (k : Nat) : Nat := if digAt base l k then runIdx (stepOn base l) (l.length - k) k else k

theorem Cur.keep {w w' : World} {b q p d : Nat} {s : ByteArray} {k : Nat} (h : Cur w b q p d s k) (hh : w'.heap = w.heap) : Cur w' b q p d s k := by
  obtain ⟨h1, h2, h3, h4, h5, h6, h7, h8⟩ := h
  exact ⟨by rw [hh]; exact h1, by rw [hh]; exact h2, by rw [hh]; exact h3, by rw [hh]; exact h4, h5, h6, h7, h8⟩
theorem Cur.move {w : World} {b q p d : Nat} {s : ByteArray} {k : Nat} (h : Cur w b q p d s k) (k' : Nat) (hk : k' ≤ s.size) : Cur (w.setCell ⟨b, 0, none⟩ (.int .i64 k')) b q p d s k' := by
  obtain ⟨h1, h2, h3, h4, h5, h6, h7, h8⟩ := h
  refine ⟨?_, ?_, ?_, ?_, hk, h6, h7, h8⟩
  · rw [heap_setCell_same w b 0 _ 3 _ h1]; rfl
  · rw [Below.heap_setCell _ _ _ _ (fun e => h6 e.symm)]; exact h2
  · rw [Below.heap_setCell _ _ _ _ (fun e => h7 e.symm)]; exact h3
  · rw [Below.heap_setCell _ _ _ _ (fun e => h8 e.symm)]; exact h4

theorem below_drewN {B : Nat} {a w : World} (h : Below B a w) (n : Nat) : Below B a (w.drewN n) := h.trans ⟨rfl, rfl, rfl, Nat.le_refl _, fun _ _ => rfl⟩

set_option maxHeartbeats 4000000 in
theorem row_c (s : ByteArray) (hs : s.size ≤ 4611686018427387904) (base : Nat) (b q p d k B : Nat) (hB : B ≤ b) (w : World) (hC : Cur w b q p d s k) :
    Calls Try.prog 43 #[.int .i64 base, .pointer (some ⟨d, 0, none⟩), .pointer (some ⟨p, 0, none⟩), .pointer (some ⟨q, 0, none⟩)] w fun e w' => e = .returned (.bool (digAt base s.data.toList k)) ∧ Cur w' b q p d s (rowEnd base s.data.toList k) ∧ Below B w w' := by
  have hlen : s.data.toList.length = s.size := by simp
  have cb := cell_of hC.cb
  have cq := cell_of hC.cq
  have cp := cell_of hC.cp
  have cd := cell_of hC.cd
  have hdc := fun (w : World) (hq : w.cell? ⟨q, 0, none⟩ = some (.string s)) (i n : Nat) => digit_c s q i base (w.drewN n) (by simpa using hq)
  have hk := hC.hk
  have HC := Lib.hid hC
  cases hd : digAt base s.data.toList k with
  | false =>
    have hr : rowEnd base s.data.toList k = k := by unfold rowEnd; rw [hd]; rfl
    have HR := Lib.hid hr
    have hdk := hdc w cq k
    simp only [hd] at hdk
    clear hr hC hlen hdc
    go_enter Try.func43, Try.ntmps43
    go_upto_region 1 with fail
    go_quiet ((go_at_call 41; refine (hdk _).mono ?_; rintro e w' ⟨rfl, rfl⟩; exact ⟨rfl, _, rfl⟩))
    go_wp2
    go_ret
    exact ⟨rfl, by rw [HR.out]; exact HC.out.keep rfl, below_drewN (Below.refl _ _) _⟩
  | true =>
    have hr : rowEnd base s.data.toList k = runIdx (stepOn base s.data.toList) (s.size - k) k := by unfold rowEnd; rw [hd, hlen]; rfl
    obtain ⟨E, hE⟩ : ∃ E, E = rowEnd base s.data.toList k := ⟨_, rfl⟩
    rw [← hE] at hr ⊢
    have HR := Lib.hid hr
    have hdk := hdc w cq k
    simp only [hd] at hdk
    clear hr hC hlen hE hdc
    go_enter Try.func43, Try.ntmps43
    go_upto_region 1 with fail
    go_quiet ((go_at_call 41; refine (hdk _).mono ?_; rintro e w' ⟨rfl, rfl⟩; exact ⟨rfl, _, rfl⟩))
    go_wp2
    clear hdk cb cq cp cd
    go_loopg [] (s.size - k) (fun g wr => ∃ i : Nat, g = s.size - i ∧ i ≤ s.size ∧ Cur wr b q p d s i ∧ Below B w wr ∧ Hid (E = runIdx (stepOn base s.data.toList) (s.size - i) i))
    case atStart => exact ⟨k, rfl, hk, HC.out.keep rfl, below_drewN (Below.refl _ _) _, HR⟩
    case round =>
      obtain ⟨i, rfl, hi, hC, hBw, hR⟩ := hrel
      have cb := cell_of hC.cb
      have fb := frozen_of hC.cb
      have cq := cell_of hC.cq
      have cp := cell_of hC.cp
      have cd := cell_of hC.cd
      have HCi := Lib.hid hC
      have hdi := fun (n : Nat) => digit_c s q i base (wr.drewN n) (by simpa using cq)
      have hdj := fun (n : Nat) => digit_c s q (i + 1) base (wr.drewN n) (by simpa using cq)
      clear hC
      obtain ⟨v, hv⟩ : ∃ v, v = stepOn base s.data.toList i := ⟨_, rfl⟩
      have HV := Lib.hid hv
      go_upto_region 3 with fail
      go_cut [43] from 13 to 48 (fun x wx => x = .bool v ∧ ∃ n, wx = wr.drewN n)
      case first =>
        clear fb HC HR hR HCi hBw
        cases hdv : digAt base s.data.toList i with
        | true =>
          have hvv : v = true := by rw [hv]; unfold stepOn; rw [hdv]; rfl
          subst hvv
          simp only [hdv] at hdi
          clear hdj hv HV hdv
          go_quiet ((go_at_call 41; refine (hdi _).mono ?_; rintro e w' ⟨rfl, rfl⟩; exact ⟨rfl, _, rfl⟩))
          go_wp2_with fail
          go_meet
          exact ⟨rfl, _, rfl⟩
        | false =>
          simp only [hdv] at hdi
          by_cases hlt : i < s.size
          · have d1 : (i : Int) < s.size := by omega
            have d0 : (0 : Int) ≤ i := by omega
            have d2 : decide ((i : Int) < s.size) = true := decide_eq_true d1
            have b0 := bytes_n s[i] 95 95 rfl
            have hx := at_of s i hlt
            by_cases h95 : s[i] = 95
            · have b1 : ((s[i].toNat : Int) == 95) = true := by rw [b0]; simpa using h95
              have w1 : IntKind.i64.wrap ((i : Int) + 1) = (i : Int) + 1 := by rw [IntKind.wrap_i64]; omega
              have hvv : v = digAt base s.data.toList (i + 1) := by rw [hv]; unfold stepOn; rw [hdv, hx, h95]; simp
              cases hdw : digAt base s.data.toList (i + 1)
              all_goals
                (simp only [hdw] at hdj
                 rw [hdw] at hvv
                 subst hvv
                 have hdj2 := fun (n : Nat) => show Calls Try.prog 41 #[.int .i64 ((i : Int) + 1), .int .i64 base, .pointer (some ⟨q, 0, none⟩)] (wr.drewN n) _ from hdj n
                 clear hdj hv HV hdv hdw hx h95 b0
                 go_quiet ((first
                   | (go_at_call_of 41 (Value.int .i64 (i : Int)); refine (hdi _).mono ?_; rintro e w' ⟨rfl, rfl⟩; exact ⟨rfl, _, rfl⟩)
                   | (go_at_call 41; refine (hdj2 _).mono ?_; rintro e w' ⟨rfl, rfl⟩; exact ⟨rfl, _, rfl⟩)))
                 go_wp2_with fail
                 go_meet
                 exact ⟨rfl, _, rfl⟩)
            · have b1 : ((s[i].toNat : Int) == 95) = false := by rw [b0]; simpa using h95
              have hvv : v = false := by
                rw [hv]; unfold stepOn; rw [hdv, hx]
                simp [h95]
              subst hvv
              clear hdj hv HV hdv hx h95 b0
              go_quiet ((go_at_call 41; refine (hdi _).mono ?_; rintro e w' ⟨rfl, rfl⟩; exact ⟨rfl, _, rfl⟩))
              go_wp2_with fail
              go_meet
              exact ⟨rfl, _, rfl⟩
          · have d1 : ¬ (i : Int) < s.size := by omega
            have d2 : decide ((i : Int) < s.size) = false := decide_eq_false d1
            have hvv : v = false := by
              rw [hv]; unfold stepOn; rw [hdv, List.getElem?_eq_none (by simp; omega)]
              simp
            subst hvv
            clear hdj hv HV hdv
            go_quiet ((go_at_call 41; refine (hdi _).mono ?_; rintro e w' ⟨rfl, rfl⟩; exact ⟨rfl, _, rfl⟩))
            go_wp2_with fail
            go_meet
            exact ⟨rfl, _, rfl⟩
      case rest =>
        obtain ⟨rfl, n, rfl⟩ := hcut
        clear hdi hdj hv
        cases v with
        | true =>
          have hi2 : i < s.size := by
            have h := HV.out
            by_cases h2 : i < s.size
            · exact h2
            · unfold stepOn at h
              rw [digAt_out s base i (by omega), List.getElem?_eq_none (by simp; omega)] at h
              simp at h
          have hR2 : E = runIdx (stepOn base s.data.toList) (s.size - (i + 1)) (i + 1) := by
            have := hR.out
            rw [show s.size - i = (s.size - (i + 1)) + 1 by omega] at this
            unfold runIdx at this
            rw [if_pos HV.out.symm] at this
            exact this
          have hR2 := Lib.hid hR2
          have hC2 := Lib.hid ((HCi.out.keep (w' := wr.drewN n) rfl).move (i + 1) (by omega))
          have hB2 := Lib.hid ((below_drewN hBw n).setCell (p := ⟨b, 0, none⟩) hB (.int .i64 ((i : Int) + 1)))
          have w1 : IntKind.i64.wrap ((i : Int) + 1) = (i : Int) + 1 := by rw [IntKind.wrap_i64]; omega
          clear HCi hBw hR
          go_wp2
          go_roundg (s.size - (i + 1))
          case measure => omega
          case rel => exact ⟨i + 1, rfl, by omega, hC2.out, hB2.out, hR2⟩
        | false =>
          have hEi : E = i := by
            have := hR.out
            by_cases h2 : i < s.size
            · rw [show s.size - i = (s.size - (i + 1)) + 1 by omega] at this
              unfold runIdx at this
              rw [if_neg (by rw [← HV.out]; decide)] at this
              exact this
            · rw [show s.size - i = 0 by omega] at this
              exact this
          have HE := Lib.hid hEi
          clear hEi
          go_wp2
          go_ret
          exact ⟨rfl, by rw [HE.out]; exact HCi.out.keep rfl, below_drewN hBw n⟩
end Go.Proofs.Ytakbhbhikknhkaa
