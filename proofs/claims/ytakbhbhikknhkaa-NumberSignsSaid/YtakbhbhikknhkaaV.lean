/-
  Layer 5: contract of number.runEnd.
-/
import Derived.Test.YtakbhbhikknhkaaU
namespace Go.Proofs.Ytakbhbhikknhkaa
open Go.ChangeShapes Go.WideShapes Go.ChangeAt Go.RowKit

theorem has_two (a b : UInt8) (l : List UInt8) : Lib.hasPrefix l [a, b] = (decide (l[0]? = some a) && decide (l[1]? = some b)) := by
  match l with
  | [] => rfl
  | [c] =>
    rw [show ([c] : List UInt8)[1]? = none from rfl, Bool.eq_iff_iff]
    unfold Lib.hasPrefix
    rw [List.isPrefixOf_iff_prefix]
    simp
  | c :: d :: t =>
    rw [show (c :: d :: t)[0]? = some c from rfl, show (c :: d :: t)[1]? = some d from rfl, Bool.eq_iff_iff]
    unfold Lib.hasPrefix
    rw [List.isPrefixOf_iff_prefix, List.cons_prefix_cons, List.cons_prefix_cons]
    simp only [List.nil_prefix, and_true, Bool.and_eq_true, decide_eq_true_eq, Option.some.injEq]
    exact ⟨fun h => ⟨h.1.symm, h.2.symm⟩, fun h => ⟨h.1.symm, h.2.symm⟩⟩
theorem head_prefix (l : List UInt8) : head? 120 88 l = (Lib.hasPrefix l [48, 120] || Lib.hasPrefix l [48, 88]) := by
  rw [has_two, has_two]
  match l with
  | [] => rfl
  | [c] => simp [head?]
  | c :: d :: t =>
    simp [head?]
    rw [Bool.eq_iff_iff]
    simp
    constructor
    · rintro ⟨h, h1 | h1⟩
      · exact .inl ⟨h, h1⟩
      · exact .inr ⟨h, h1⟩
    · rintro (⟨h, h1⟩ | ⟨h, h1⟩)
      · exact ⟨h, .inl h1⟩
      · exact ⟨h, .inr h1⟩
def powersOf (hex : Bool) : ByteArray := if hex then ⟨#[112, 80]⟩ else ⟨#[101, 69]⟩
theorem powers_has (hex : Bool) (d : UInt8) : (powersOf hex).data.toList.contains d = power? hex d := by
  cases hex <;> simp [powersOf, power?] <;> rw [Bool.eq_iff_iff] <;> simp
theorem goes_eq (s : ByteArray) (hex : Bool) (a k : Nat) (h1 : a ≤ k) (h2 : k < s.size) :
    goesOn hex (s.data.toList.drop a) (k - a) = (tail? s[k] || signed? (powersOf hex).data.toList s.data.toList a k) := by
  have hT := drop_at s a k h1 h2
  unfold signed?
  rw [at_of s k h2]
  dsimp only
  by_cases hk : k = a
  · subst hk
    rw [Nat.sub_self] at hT ⊢
    simp only [goesOn, hT]
    simp
  · obtain ⟨p, rfl⟩ : ∃ p, k = p + 1 := ⟨k - 1, by omega⟩
    have hT2 := drop_at s a p (by omega) (by omega)
    rw [show p + 1 - a = (p - a) + 1 by omega] at hT ⊢
    simp only [goesOn, hT, hT2]
    rw [Nat.add_sub_cancel, at_of s p (by omega), decide_eq_true (show a < p + 1 by omega)]
    simp only [Bool.true_and, powers_has]

set_option maxHeartbeats 4000000 in
theorem runEnd_any (s : ByteArray) (hs : s.size ≤ 4611686018427387904) (a : Nat) (ia : a ≤ s.size) (w : World) :
    Calls Try.prog 22 #[.string s, .int .i64 a] w fun e w' => e = .returned (.int .i64 ((a + runLen (s.data.toList.drop a) : Nat) : Int)) ∧ Below w.heap.size w w' := by
  have hl : s.data.toList.length = s.size := by simp
  obtain ⟨N, hN⟩ : ∃ N, N = a + runLen (s.data.toList.drop a) := ⟨_, rfl⟩
  rw [← hN]
  have hp1 := fun w => Try.strings_HasPrefix (s.extract a s.size) ⟨#[48, 120]⟩ w
  have hp2 := fun w => Try.strings_HasPrefix (s.extract a s.size) ⟨#[48, 88]⟩ w
  have hex : head? 120 88 (s.data.toList.drop a) = (Lib.hasPrefix (s.extract a s.size).data.toList [48, 120] || Lib.hasPrefix (s.extract a s.size).data.toList [48, 88]) := by
    rw [extract_drop]; exact head_prefix _
  obtain ⟨x1, hx1⟩ : ∃ v, v = Lib.hasPrefix (s.extract a s.size).data.toList [48, 120] := ⟨_, rfl⟩
  obtain ⟨x2, hx2⟩ : ∃ v, v = Lib.hasPrefix (s.extract a s.size).data.toList [48, 88] := ⟨_, rfl⟩
  rw [← hx1, ← hx2] at hex
  rw [show Lib.hasPrefix (s.extract a s.size).data.toList (⟨#[48, 120]⟩ : ByteArray).data.toList = x1 from hx1.symm] at hp1
  rw [show Lib.hasPrefix (s.extract a s.size).data.toList (⟨#[48, 88]⟩ : ByteArray).data.toList = x2 from hx2.symm] at hp2
  obtain ⟨f, hf⟩ : ∃ f, f = goesOn (x1 || x2) (s.data.toList.drop a) := ⟨_, rfl⟩
  have HN := Lib.hid (show N = a + runFrom f (s.size - a) 0 by rw [hN, hf, ← hex]; unfold runLen; rw [List.length_drop, hl])
  have HF := Lib.hid (show ∀ k, a ≤ k → (h : k < s.size) → f (k - a) = (tail? s[k] || signed? (powersOf (x1 || x2)).data.toList s.data.toList a k) by
    intro k h1 h2; rw [hf]; exact goes_eq s _ a k h1 h2)
  clear hN hf hx1 hx2 hex hl
  have ia' : (a : Int) ≤ s.size := by omega
  go_enter Try.func22, Try.ntmps22
  go_upto_region 2 with fail
  go_cut [17] from 8 to 17 (fun v wx => v = .bool (x1 || x2) ∧ wx = (((w.alloc (.cells #[.string s] 9)).alloc (.cells #[.int .i64 a] 3)).alloc (.cells #[.string ⟨#[101, 69]⟩] 9)))
  case first =>
    cases x1 <;> cases x2
    all_goals
      (go_wp2_with (first
        | (go_at_call 34; refine (hp1 _).mono ?_; rintro e w1 ⟨rfl, hw⟩; rw [hw]; clear hw w1)
        | (go_at_call 34; refine (hp2 _).mono ?_; rintro e w1 ⟨rfl, hw⟩; rw [hw]; clear hw w1))
       go_meet
       exact ⟨rfl, rfl⟩)
  case rest =>
  obtain ⟨rfl, rfl⟩ := hcut
  clear hp1 hp2
  obtain ⟨hex, hh⟩ : ∃ v, v = (x1 || x2) := ⟨_, rfl⟩
  rw [← hh] at HF ⊢
  clear hh
  cases hex with
  | true =>
    have NEW0 : (((w.alloc (.cells #[.string s] 9)).alloc (.cells #[.int .i64 a] 3)).alloc (.cells #[.string ⟨#[112, 80]⟩] 9)).cell? ⟨w.heap.size, 0, none⟩ = some (.string s) := cell_of (t := 9) (by show (((w.heap.push _).push _).push _)[w.heap.size]? = _; simp [Array.getElem?_push]; omega)
    have NEW1 : (((w.alloc (.cells #[.string s] 9)).alloc (.cells #[.int .i64 a] 3)).alloc (.cells #[.string ⟨#[112, 80]⟩] 9)).cell? ⟨w.heap.size + 1, 0, none⟩ = some (.int .i64 a) := cell_of (t := 3) (by show (((w.heap.push _).push _).push _)[w.heap.size + 1]? = _; simp [Array.getElem_push])
    have NEW2 : (((w.alloc (.cells #[.string s] 9)).alloc (.cells #[.int .i64 a] 3)).alloc (.cells #[.string ⟨#[112, 80]⟩] 9)).cell? ⟨w.heap.size + 1 + 1, 0, none⟩ = some (.string ⟨#[112, 80]⟩) := cell_of (t := 9) (by show (((w.heap.push _).push _).push _)[w.heap.size + 1 + 1]? = _; simp [Array.getElem_push])
    have HB0 : Below w.heap.size w (((w.alloc (.cells #[.string s] 9)).alloc (.cells #[.int .i64 a] 3)).alloc (.cells #[.string ⟨#[112, 80]⟩] 9)) := (((Below.refl _ w).alloc (Nat.le_refl _) _).alloc (by simp) _).alloc (by simp; omega) _
    go_wp2
    go_loopg [7] (s.size - a) (fun g ii wr => ∃ k : Nat, g = s.size - k ∧ a ≤ k ∧ k ≤ s.size ∧ ii = .int .i64 k ∧ wr.cell? ⟨w.heap.size, 0, none⟩ = some (.string s) ∧ wr.cell? ⟨w.heap.size + 1, 0, none⟩ = some (.int .i64 a) ∧ wr.cell? ⟨w.heap.size + 1 + 1, 0, none⟩ = some (.string ⟨#[112, 80]⟩) ∧ Below w.heap.size w wr ∧ Hid (N = a + runFrom f (s.size - k) (k - a)))
    case atStart => exact ⟨a, rfl, Nat.le_refl _, ia, rfl, NEW0, NEW1, NEW2, HB0, Lib.hid (by rw [HN.out, Nat.sub_self])⟩
    case round =>
      obtain ⟨k, rfl, hak, hk, rfl, c0, c1, c2, hB, hR⟩ := hrel
      by_cases hlt : k < s.size
      · have hfk := HF.out k hak hlt
        have hstep := hR.out
        rw [show s.size - k = (s.size - (k + 1)) + 1 by omega] at hstep
        unfold runFrom at hstep
        rw [hfk] at hstep
        have HSt := Lib.hid hstep
        have hsg := signed_c s ⟨#[112, 80]⟩ hs a k w.heap.size (w.heap.size + 1) (w.heap.size + 1 + 1) hlt wr c0 c1 c2
        obtain ⟨sg, hsgv⟩ : ∃ v, v = signed? (⟨#[112, 80]⟩ : ByteArray).data.toList s.data.toList a k := ⟨_, rfl⟩
        rw [← hsgv] at hsg
        have HSG := Lib.hid (show signed? (powersOf true).data.toList s.data.toList a k = sg from hsgv.symm)
        clear hstep hfk hsgv hR
        have hin := fun w => inRun_any s[k] w
        have d1 : (k : Int) < s.size := by omega
        obtain ⟨ti, hti⟩ : ∃ v, v = tail? s[k] := ⟨_, rfl⟩
        rw [← hti] at hin
        have HTI := Lib.hid hti
        clear hti
        cases ti with
        | true =>
          have hR2 : N = a + runFrom f (s.size - (k + 1)) (k + 1 - a) := by
            have := HSt.out
            rw [← HTI.out, Bool.true_or, if_pos rfl] at this
            rw [show k + 1 - a = k - a + 1 by omega]; exact this
          have hR2 := Lib.hid hR2
          clear HSt hsg
          go_wp2_with (go_at_call 37; refine (hin _).mono ?_; rintro e w1 ⟨rfl, hw⟩; rw [hw]; clear hw w1)
          go_roundg (s.size - (k + 1))
          case measure => omega
          case rel => exact ⟨k + 1, rfl, by omega, by omega, by go_num, c0, c1, c2, hB, hR2⟩
        | false =>
          cases sg with
          | true =>
            have hR2 : N = a + runFrom f (s.size - (k + 1)) (k + 1 - a) := by
              have := HSt.out
              rw [← HTI.out, HSG.out, Bool.false_or, if_pos rfl] at this
              rw [show k + 1 - a = k - a + 1 by omega]; exact this
            have hR2 := Lib.hid hR2
            clear HSt
            go_wp2_with (first
              | (go_at_call 37; refine (hin _).mono ?_; rintro e w1 ⟨rfl, hw⟩; rw [hw]; clear hw w1)
              | (go_at_call 35; refine hsg.mono ?_; rintro e w1 ⟨rfl, n, rfl⟩))
            go_roundg (s.size - (k + 1))
            case measure => omega
            case rel => exact ⟨k + 1, rfl, by omega, by omega, by go_num, c0, c1, c2, below_drewN hB n, hR2⟩
          | false =>
            have hr : N = k := by
              have := HSt.out
              rw [← HTI.out, HSG.out, Bool.false_or, if_neg (by decide)] at this
              omega
            have hr := Lib.hid hr
            clear HSt
            go_wp2_with (first
              | (go_at_call 37; refine (hin _).mono ?_; rintro e w1 ⟨rfl, hw⟩; rw [hw]; clear hw w1)
              | (go_at_call 35; refine hsg.mono ?_; rintro e w1 ⟨rfl, n, rfl⟩))
            go_ret
            exact ⟨ret_int (by have := hr.out; omega), below_drewN hB n⟩
      · have hr : N = s.size := by
          have := hR.out
          rw [show s.size - k = 0 by omega] at this
          unfold runFrom at this
          omega
        have hr := Lib.hid hr
        have d1 : ¬ (k : Int) < s.size := by omega
        go_wp2
        go_ret
        exact ⟨ret_int (by have := hr.out; omega), hB⟩
  | false =>
    have NEW0 : (((w.alloc (.cells #[.string s] 9)).alloc (.cells #[.int .i64 a] 3)).alloc (.cells #[.string ⟨#[101, 69]⟩] 9)).cell? ⟨w.heap.size, 0, none⟩ = some (.string s) := cell_of (t := 9) (by show (((w.heap.push _).push _).push _)[w.heap.size]? = _; simp [Array.getElem?_push]; omega)
    have NEW1 : (((w.alloc (.cells #[.string s] 9)).alloc (.cells #[.int .i64 a] 3)).alloc (.cells #[.string ⟨#[101, 69]⟩] 9)).cell? ⟨w.heap.size + 1, 0, none⟩ = some (.int .i64 a) := cell_of (t := 3) (by show (((w.heap.push _).push _).push _)[w.heap.size + 1]? = _; simp [Array.getElem_push])
    have NEW2 : (((w.alloc (.cells #[.string s] 9)).alloc (.cells #[.int .i64 a] 3)).alloc (.cells #[.string ⟨#[101, 69]⟩] 9)).cell? ⟨w.heap.size + 1 + 1, 0, none⟩ = some (.string ⟨#[101, 69]⟩) := cell_of (t := 9) (by show (((w.heap.push _).push _).push _)[w.heap.size + 1 + 1]? = _; simp [Array.getElem_push])
    have HB0 : Below w.heap.size w (((w.alloc (.cells #[.string s] 9)).alloc (.cells #[.int .i64 a] 3)).alloc (.cells #[.string ⟨#[101, 69]⟩] 9)) := (((Below.refl _ w).alloc (Nat.le_refl _) _).alloc (by simp) _).alloc (by simp; omega) _
    go_wp2
    go_loopg [7] (s.size - a) (fun g ii wr => ∃ k : Nat, g = s.size - k ∧ a ≤ k ∧ k ≤ s.size ∧ ii = .int .i64 k ∧ wr.cell? ⟨w.heap.size, 0, none⟩ = some (.string s) ∧ wr.cell? ⟨w.heap.size + 1, 0, none⟩ = some (.int .i64 a) ∧ wr.cell? ⟨w.heap.size + 1 + 1, 0, none⟩ = some (.string ⟨#[101, 69]⟩) ∧ Below w.heap.size w wr ∧ Hid (N = a + runFrom f (s.size - k) (k - a)))
    case atStart => exact ⟨a, rfl, Nat.le_refl _, ia, rfl, NEW0, NEW1, NEW2, HB0, Lib.hid (by rw [HN.out, Nat.sub_self])⟩
    case round =>
      obtain ⟨k, rfl, hak, hk, rfl, c0, c1, c2, hB, hR⟩ := hrel
      by_cases hlt : k < s.size
      · have hfk := HF.out k hak hlt
        have hstep := hR.out
        rw [show s.size - k = (s.size - (k + 1)) + 1 by omega] at hstep
        unfold runFrom at hstep
        rw [hfk] at hstep
        have HSt := Lib.hid hstep
        have hsg := signed_c s ⟨#[101, 69]⟩ hs a k w.heap.size (w.heap.size + 1) (w.heap.size + 1 + 1) hlt wr c0 c1 c2
        obtain ⟨sg, hsgv⟩ : ∃ v, v = signed? (⟨#[101, 69]⟩ : ByteArray).data.toList s.data.toList a k := ⟨_, rfl⟩
        rw [← hsgv] at hsg
        have HSG := Lib.hid (show signed? (powersOf false).data.toList s.data.toList a k = sg from hsgv.symm)
        clear hstep hfk hsgv hR
        have hin := fun w => inRun_any s[k] w
        have d1 : (k : Int) < s.size := by omega
        obtain ⟨ti, hti⟩ : ∃ v, v = tail? s[k] := ⟨_, rfl⟩
        rw [← hti] at hin
        have HTI := Lib.hid hti
        clear hti
        cases ti with
        | true =>
          have hR2 : N = a + runFrom f (s.size - (k + 1)) (k + 1 - a) := by
            have := HSt.out
            rw [← HTI.out, Bool.true_or, if_pos rfl] at this
            rw [show k + 1 - a = k - a + 1 by omega]; exact this
          have hR2 := Lib.hid hR2
          clear HSt hsg
          go_wp2_with (go_at_call 37; refine (hin _).mono ?_; rintro e w1 ⟨rfl, hw⟩; rw [hw]; clear hw w1)
          go_roundg (s.size - (k + 1))
          case measure => omega
          case rel => exact ⟨k + 1, rfl, by omega, by omega, by go_num, c0, c1, c2, hB, hR2⟩
        | false =>
          cases sg with
          | true =>
            have hR2 : N = a + runFrom f (s.size - (k + 1)) (k + 1 - a) := by
              have := HSt.out
              rw [← HTI.out, HSG.out, Bool.false_or, if_pos rfl] at this
              rw [show k + 1 - a = k - a + 1 by omega]; exact this
            have hR2 := Lib.hid hR2
            clear HSt
            go_wp2_with (first
              | (go_at_call 37; refine (hin _).mono ?_; rintro e w1 ⟨rfl, hw⟩; rw [hw]; clear hw w1)
              | (go_at_call 35; refine hsg.mono ?_; rintro e w1 ⟨rfl, n, rfl⟩))
            go_roundg (s.size - (k + 1))
            case measure => omega
            case rel => exact ⟨k + 1, rfl, by omega, by omega, by go_num, c0, c1, c2, below_drewN hB n, hR2⟩
          | false =>
            have hr : N = k := by
              have := HSt.out
              rw [← HTI.out, HSG.out, Bool.false_or, if_neg (by decide)] at this
              omega
            have hr := Lib.hid hr
            clear HSt
            go_wp2_with (first
              | (go_at_call 37; refine (hin _).mono ?_; rintro e w1 ⟨rfl, hw⟩; rw [hw]; clear hw w1)
              | (go_at_call 35; refine hsg.mono ?_; rintro e w1 ⟨rfl, n, rfl⟩))
            go_ret
            exact ⟨ret_int (by have := hr.out; omega), below_drewN hB n⟩
      · have hr : N = s.size := by
          have := hR.out
          rw [show s.size - k = 0 by omega] at this
          unfold runFrom at this
          omega
        have hr := Lib.hid hr
        have d1 : ¬ (k : Int) < s.size := by omega
        go_wp2
        go_ret
        exact ⟨ret_int (by have := hr.out; omega), hB⟩
end Go.Proofs.Ytakbhbhikknhkaa
