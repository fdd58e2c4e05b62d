/-
  Layer 5: the walks of NumberWhole and NumberSigns.
-/
import Derived.Test.YtakbhbhikknhkaaW
namespace Go.Proofs.Ytakbhbhikknhkaa
open Go.ChangeShapes Go.WideShapes Go.ChangeAt Go.RowKit

set_option maxRecDepth 100000 in
set_option maxHeartbeats 2000000 in
theorem numberWhole_walk (s ah : ByteArray) (at' : Int) (hs : s.size ≤ 140737488351232) (ha : ah.size ≤ 140737488351232) (w : World) : Calls Try.prog 7 #[.string s, .string ah, .int .i64 at'] w fun e w' => e = .returned (.bool true) ∧ Below w.heap.size w w' := by
  have hA : Below w.heap.size w w := Below.refl _ _
  have hsc := scan_any s (by omega) at'
  rw [scan_agree] at hsc
  by_cases hb : (decide (0 ≤ at') && starts (s.data.toList.drop at'.toNat)) = true
  · have hb2 := hb
    rw [Bool.and_eq_true, decide_eq_true_eq] at hb2
    obtain ⟨h0, hst⟩ := hb2
    obtain ⟨a, rfl⟩ : ∃ a : Nat, at' = (a : Int) := ⟨at'.toNat, by omega⟩
    rw [show ((a : Int)).toNat = a by omega] at hst hb
    have ia : a < s.size := by
      by_cases h : a < s.size
      · exact h
      · rw [List.drop_eq_nil_of_le (by simp; omega)] at hst; cases hst
    have hle := runLen_le (s.data.toList.drop a)
    have hpos := runLen_pos hst
    have hl : s.data.toList.length = s.size := by simp
    rw [List.length_drop, hl] at hle
    obtain ⟨n, hn⟩ : ∃ n, n = runLen (s.data.toList.drop a) := ⟨_, rfl⟩
    obtain ⟨P, hP⟩ : ∃ P, P = (s.data.toList.drop a).take n := ⟨_, rfl⟩
    obtain ⟨K, hK⟩ : ∃ K, K = kindOf P := ⟨_, rfl⟩
    have hr : scanOf kindOf s.data.toList a = if K = 0 then (0, 0, 4) else (K, ((a + n : Nat) : Int), 0) := by
      unfold scanOf
      rw [show ((a : Int)).toNat = a by omega, if_pos hb, ← hn, ← hP, ← hK]
    rw [hr] at hsc
    rw [← hn] at hle hpos
    by_cases hk0 : K = 0
    · rw [if_pos hk0] at hsc
      clear hr hK hP hn hb hst hl hk0
      go_enter Try.func7, Try.ntmps7
      go_wp2_with (first
        | (go_at_call 12; refine (hsc _).mono ?_; rintro e w1 ⟨rfl, hB⟩; replace hA := hA.trans (hB.mono hA.size); clear hB)
        | (go_at_call 9; refine (fixed_any _).mono ?_; rintro e w1 ⟨rfl, hB⟩; replace hA := hA.trans (hB.mono hA.size); clear hB))
      go_ret
      exact ⟨rfl, hA⟩
    · rw [if_neg hk0] at hsc
      obtain ⟨x, hx⟩ : ∃ x, x = s.extract a (a + n) := ⟨_, rfl⟩
      have hxl : x.data.toList = P := by rw [hx, slice_run, hP]
      have hxs : x.size = n := by rw [hx]; simp; omega
      have hkx := kind_any x (by omega)
      rw [kind_agree, hxl, ← hK] at hkx
      obtain ⟨u, hu⟩ : ∃ u : ByteArray, u = ah ++ ⟨#[32]⟩ ++ x ++ ⟨#[32]⟩ := ⟨_, rfl⟩
      have hul : u.data.toList = (ah.data.toList ++ [32]) ++ (P ++ [32]) := by rw [hu]; simp [hxl]
      have hus : u.size ≤ 4611686018427387904 := by
        have : u.size = ah.size + 1 + n + 1 := by
          rw [hu, ByteArray.size_append, ByteArray.size_append, ByteArray.size_append, hxs]; rfl
        omega
      have hs2 := scan_any u hus ((ah.size : Int) + 1)
      rw [scan_agree, hul] at hs2
      have hag := scan_again (l := s.data.toList) (a := a) (by rw [← hn, ← hP, ← hK]; exact hk0) (ah.data.toList ++ [32])
      rw [← hn, ← hP, ← hK] at hag
      have hal : (ah.data.toList ++ [32]).length = ah.size + 1 := by simp
      rw [hal] at hag
      rw [show ((ah.size : Int) + 1) = ((ah.size + 1 : Nat) : Int) by omega, hag] at hs2
      have HX := Lib.hid hx
      have HU := Lib.hid hu
      have e1 : ((ah.size + 1 : Nat) : Int) = (ah.size : Int) + 1 := by omega
      have e2 : ((ah.size + 1 + n : Nat) : Int) = (ah.size : Int) + 1 + ((a + n : Nat) : Int) - (a : Int) := by omega
      rw [e1, e2] at hs2
      have d1 : ((K : Int) == (K : Int)) = true := by simp
      have d2 : ((K : Int) != (K : Int)) = false := by simp
      have d3 : ¬ ((a + n : Nat) : Int) ≤ (a : Int) := by omega
      have d4 : ¬ (s.size : Int) < ((a + n : Nat) : Int) := by omega
      have d5 : a ≤ a + n := by omega
      have d6 : a + n ≤ s.size := by omega
      obtain ⟨E, hE⟩ : ∃ E, E = a + n := ⟨_, rfl⟩
      rw [← hE] at hsc hs2 d3 d4 d5 d6
      have HX2 := Lib.hid (show s.extract a E = x by rw [hE, hx])
      clear hr hK hP hn hb hst hl hxl hul hag hal hu hx e1 e2 hE HX
      have t1 : True := trivial
      go_enter Try.func7, Try.ntmps7
      go_wp2_with (first
        | (go_at_call 12; clear t1; refine (hsc _).mono ?_; rintro e w1 ⟨rfl, hB⟩; replace hA := hA.trans (hB.mono hA.size); clear hB)
        | (go_at_call 9; refine (fixed_any _).mono ?_; rintro e w1 ⟨rfl, hB⟩; replace hA := hA.trans (hB.mono hA.size); clear hB)
        | (go_at_call 10; rw [HX2.out]; refine (hkx _).mono ?_; rintro e w1 ⟨rfl, hB⟩; replace hA := hA.trans (hB.mono hA.size); clear hB)
        | (go_at_call 12; rw [HX2.out, ← HU.out]; refine (hs2 _).mono ?_; rintro e w1 ⟨rfl, hB⟩; replace hA := hA.trans (hB.mono hA.size); clear hB))
      go_ret
      exact ⟨ret_bool (by simp), hA⟩
  · have hr : scanOf kindOf s.data.toList at' = (0, 0, 15) := by unfold scanOf; rw [if_neg hb]
    rw [hr] at hsc
    clear hr hb
    go_enter Try.func7, Try.ntmps7
    go_wp2_with (first
      | (go_at_call 12; refine (hsc _).mono ?_; rintro e w1 ⟨rfl, hB⟩; replace hA := hA.trans (hB.mono hA.size); clear hB)
      | (go_at_call 9; refine (fixed_any _).mono ?_; rintro e w1 ⟨rfl, hB⟩; replace hA := hA.trans (hB.mono hA.size); clear hB))
    go_ret
    exact ⟨rfl, hA⟩

def signs : List ByteArray := [⟨#[43]⟩, ⟨#[45]⟩, ⟨#[59]⟩, ⟨#[41]⟩, ⟨#[32]⟩, ⟨#[42]⟩, ⟨#[195, 169]⟩]
theorem sign_at : ∀ k, k < 7 → ∃ (c : ByteArray) (y : UInt8) (r : List UInt8), signs[k]? = some c ∧ c.data.toList = y :: r ∧ tail? y = false ∧ c.size ≤ 2
  | 0, _ => ⟨_, 43, [], rfl, rfl, by decide, by decide⟩
  | 1, _ => ⟨_, 45, [], rfl, rfl, by decide, by decide⟩
  | 2, _ => ⟨_, 59, [], rfl, rfl, by decide, by decide⟩
  | 3, _ => ⟨_, 41, [], rfl, rfl, by decide, by decide⟩
  | 4, _ => ⟨_, 32, [], rfl, rfl, by decide, by decide⟩
  | 5, _ => ⟨_, 42, [], rfl, rfl, by decide, by decide⟩
  | 6, _ => ⟨_, 195, [169], rfl, rfl, by decide, by decide⟩
  | k + 7, h => by omega
set_option maxHeartbeats 2000000 in
theorem numberSigns_walk (s : ByteArray) (hs : s.size ≤ 140737488351232) (w : World) : Calls Try.prog 8 #[.string s] w fun e w' => e = .returned (.bool true) ∧ Below w.heap.size w w' := by
  have hA : Below w.heap.size w w := Below.refl _ _
  have hk := kind_any s (by omega)
  rw [kind_agree] at hk
  obtain ⟨K, hK⟩ : ∃ K, K = kindOf s.data.toList := ⟨_, rfl⟩
  rw [← hK] at hk
  by_cases h0 : K = 0
  · subst h0
    clear hK
    go_enter Try.func8, Try.ntmps8
    go_wp2_with (first
      | (go_at_call 10; refine (hk _).mono ?_; rintro e w1 ⟨rfl, hB⟩; replace hA := hA.trans (hB.mono hA.size); clear hB)
      | (go_at_call 9; refine (fixed_any _).mono ?_; rintro e w1 ⟨rfl, hB⟩; replace hA := hA.trans (hB.mono hA.size); clear hB))
    go_ret
    exact ⟨rfl, hA⟩
  · have d1 : ((K : Int) == 0) = false := by rw [beq_eq_false_iff_ne]; omega
    have d2 : ((K : Int) != (K : Int)) = false := by simp
    have hsc : ∀ (c : ByteArray) (y : UInt8) (r : List UInt8), c.data.toList = y :: r → tail? y = false → c.size ≤ 2 → ∀ w, Calls Try.prog 12 #[.string (s ++ c), .int .i64 0] w fun e w' => e = .returned (.tuple #[.int .u8 K, .int .i64 s.size, .int .i64 0]) ∧ Below w.heap.size w w' := by
      intro c y r hc hy hz w
      have h := scan_any (s ++ c) (by rw [ByteArray.size_append]; omega) 0 w
      have e : (s ++ c).data.toList = s.data.toList ++ y :: r := by simp [hc]
      have hl : s.data.toList.length = s.size := by simp
      rw [scan_agree, e, scan_sign (by rw [← hK]; exact h0) r hy, ← hK, hl] at h
      exact h
    have HSC := Lib.hid hsc
    clear hsc hK h0
    go_enter Try.func8, Try.ntmps8
    go_wp2_with (first
      | (go_at_call 10; refine (hk _).mono ?_; rintro e w1 ⟨rfl, hB⟩; replace hA := hA.trans (hB.mono hA.size); clear hB)
      | (go_at_call 9; refine (fixed_any _).mono ?_; rintro e w2 ⟨rfl, hB⟩; replace hA := hA.trans (hB.mono hA.size); clear hB))
    have hsz := hA.size
    have HA2 := Lib.hid (hA.alloc hsz (.cells (signs.map Value.string).toArray 9))
    have HC := Lib.hid (show (w2.alloc (.cells (signs.map Value.string).toArray 9)).heap[w2.heap.size]? = some (.cells (signs.map Value.string).toArray 9 (0, 0)) from by
      show (w2.heap.push _)[w2.heap.size]? = _
      simp)
    have hlt2 := Lib.hid (show w2.heap.size < (w2.alloc (.cells (signs.map Value.string).toArray 9)).heap.size by simp)
    go_loopg [20] 7 (fun g ii wr => ∃ k : Nat, g = 7 - k ∧ k ≤ 7 ∧ ii = .int .i64 k ∧ Hid (wr.heap[w2.heap.size]? = some (.cells (signs.map Value.string).toArray 9 (0, 0))) ∧ Below w.heap.size w wr)
    case atStart => exact ⟨0, rfl, by omega, rfl, HC, HA2.out⟩
    case round =>
      obtain ⟨k, rfl, hk7, rfl, hH, hB⟩ := hrel
      by_cases hlt : k < 7
      · obtain ⟨c, y, r, e1, e2, e3, e4⟩ := sign_at k hlt
        have hc : wr.cell? ⟨w2.heap.size, k, none⟩ = some (.string c) := by
          unfold World.cell?
          simp only [hH.out]
          simp [e1]
        have hcall := HSC.out c y r e2 e3 e4
        have hlw := (Array.getElem?_eq_some_iff.1 hH.out).1
        have HLW := Lib.hid hlw
        have hadd : s.size + c.size ≤ 9223372036854775807 := by omega
        clear e1 e2 e3 hlw
        go_wp2_with (go_at_call 12; refine (hcall _).mono ?_; rintro e w3 ⟨rfl, hB3⟩)
        go_roundg (7 - (k + 1))
        case measure => omega
        case rel => exact ⟨k + 1, rfl, by omega, by go_num, Lib.hid ((hB3.block _ HLW.out).trans hH.out), hB.trans (hB3.mono hB.size)⟩
      · have hk7' : (k : Int) = 7 := by omega
        go_wp2
        go_ret
        exact ⟨rfl, hB⟩
end Go.Proofs.Ytakbhbhikknhkaa
