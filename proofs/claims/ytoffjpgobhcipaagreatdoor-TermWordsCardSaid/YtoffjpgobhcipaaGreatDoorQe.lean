/-
  Texts M N O P Q R S of an earlier seat, under this one's numbers.
-/
import Derived.Test.YtoffjpgobhcipaaGreatDoorQd
import Derived.Test.YtoffjpgobhcipaaGreatDoorShelb
import Derived.Laws.Rows
import Derived.Deep.AppendLies
import Derived.Deep.RegionLaw
import Derived.OwnWalk
import Derived.Laws.CopyOwn
set_option maxRecDepth 100000
/-
  Layer 6: contracts of the document's number and small.
-/
namespace Go.Proofs.YtoffjpgobhcipaaGreatDoor
open Go.ChangeShapes Go.WideShapes Go.ChangeAt Go.RowKit

/-- what the document's number answers -/
def docNum : Option (Nat × List UInt8) → Int
  | some (n, _) => n
  | none => -1
theorem numOf_short (base : Nat) : ∀ (d n : Nat) (l : List UInt8), l.length < d → numOf base d n l = none
  | 0, _, _, h => absurd h (by omega)
  | _ + 1, _, [], _ => rfl
  | d + 1, n, c :: t, h => by
    unfold numOf
    split
    · exact numOf_short base d _ t (by simp at h; omega)
    · rfl

theorem wrap_small (x : Int) (h : 0 ≤ x) (h1 : x ≤ 4294967312) : wrap64 x = x := by unfold wrap64; omega
theorem wrap_two (n base dn : Nat) (h : n * base ≤ 268435456 * 16) (hd : dn ≤ 15) : wrap64 (wrap64 ((n : Int) * (base : Int)) + (dn : Int)) = ((n * base + dn : Nat) : Int) := by
  rw [show (n : Int) * (base : Int) = ((n * base : Nat) : Int) by simp]
  generalize n * base = p at h
  rw [wrap_small (p : Int) (by omega) (by omega), wrap_small ((p : Int) + (dn : Int)) (by omega) (by omega)]
  omega
set_option maxRecDepth 100000 in
set_option maxHeartbeats 4000000 in
theorem docnum_any (s : ByteArray) (hs : s.size ≤ 140737488351232) (k digits base : Nat) (hk : k ≤ s.size) (hd : digits ≤ 8) (hb : base ≤ 16) (w : World) :
    Calls Tryz.prog 132 #[.string s, .int .i64 k, .int .i64 digits, .int .i64 base] w fun e w' => e = .returned (.int .i64 (docNum (numOf base digits 0 (s.data.toList.drop k)))) ∧ Below w.heap.size w w' := by
  have hl : s.data.toList.length = s.size := by simp
  have w0 : IntKind.i64.wrap ((s.size : Int) - (k : Int)) = (s.size : Int) - (k : Int) := by rw [IntKind.wrap_i64]; omega
  by_cases hsh : s.size - k < digits
  · have hA : numOf base digits 0 (s.data.toList.drop k) = none := numOf_short base digits 0 _ (by rw [List.length_drop, hl]; exact hsh)
    have d0 : (s.size : Int) - (k : Int) < (digits : Int) := by omega
    rw [hA]
    clear hA hsh
    go_enter Tryz.func132, Tryz.ntmps132
    go_wp2
    go_ret
    exact ⟨rfl, Below.refl _ _⟩
  · have d0 : (digits : Int) ≤ (s.size : Int) - (k : Int) := by omega
    obtain ⟨A, hA⟩ : ∃ A, A = numOf base digits 0 (s.data.toList.drop k) := ⟨_, rfl⟩
    rw [← hA]
    have HA := Lib.hid (show A = numOf base (digits - 0) 0 (s.data.toList.drop (k + 0)) from hA)
    have HS := Lib.hid (show k + digits ≤ s.size by omega)
    clear hA hsh
    go_enter Tryz.func132, Tryz.ntmps132
    go_wp2
    go_loopg [9, 10, 11] digits (fun g nv iv _ wr => ∃ i n : Nat, g = digits - i ∧ i ≤ digits ∧ nv = .int .i64 n ∧ iv = .int .i64 i ∧ wr = w ∧ Hid (n < 16 ^ i) ∧ Hid (A = numOf base (digits - i) n (s.data.toList.drop (k + i))))
    case atStart => exact ⟨0, 0, rfl, Nat.zero_le _, rfl, rfl, rfl, Lib.hid (by decide), HA⟩
    case round =>
      obtain ⟨i, n, rfl, hi, rfl, rfl, rfl, hN, hAn⟩ := hrel
      by_cases hlt : i < digits
      · have hn7 : n < 268435456 := by
          have h1 := hN.out
          have h2 : 16 ^ i ≤ 16 ^ 7 := Nat.pow_le_pow_right (by decide) (by omega)
          have : (16 : Nat) ^ 7 = 268435456 := by decide
          omega
        obtain ⟨K, hK⟩ : ∃ K, K = k + i := ⟨_, rfl⟩
        have hin : K < s.size := by have := HS.out; omega
        have d1 : (i : Int) < digits := by omega
        have e1 : (k : Int) + (i : Int) = (K : Int) := by omega
        have d2 : (K : Int) < s.size := by omega
        have d3 : (0 : Int) ≤ K := by omega
        have hdr : s.data.toList.drop (k + i) = s[K] :: s.data.toList.drop (K + 1) := by rw [← hK]; exact drop_at s K hin
        have hst : A = numOf base ((digits - (i + 1)) + 1) n (s[K] :: s.data.toList.drop (K + 1)) := by
          rw [hAn.out, hdr, show digits - i = digits - (i + 1) + 1 by omega]
        have HWb := Lib.hid (show wrap64 (s[K].toNat : Int) = (s[K].toNat : Int) by have := s[K].toNat_lt; unfold wrap64; omega)
        have hHv := hex_le (s[K].toNat : Int)
        obtain ⟨D, hD⟩ : ∃ D, D = hexOf (s[K].toNat : Int) := ⟨_, rfl⟩
        have hbs := fun w => rbase_any (s[K].toNat : Int) w
        rw [← hD] at hHv hbs
        by_cases hok : 0 ≤ D ∧ D < base
        · have hA2 : A = numOf base (digits - (i + 1)) (n * base + D.toNat) (s.data.toList.drop (K + 1)) := by
            rw [hst, numOf_step (by rw [← hD]; exact hok), ← hD]
          obtain ⟨dn, hdn⟩ : ∃ dn : Nat, D = (dn : Int) := ⟨D.toNat, by omega⟩
          subst hdn
          have hA3 := Lib.hid (show A = numOf base (digits - (i + 1)) (n * base + dn) (s.data.toList.drop (k + (i + 1))) by
            rw [hA2, hK]; rfl)
          have hdb : dn < base := by omega
          have hN2 := Lib.hid (show n * base + dn < 16 ^ (i + 1) by
            have h1 := hN.out
            have h2 : n * base ≤ n * 16 := Nat.mul_le_mul_left n hb
            rw [Nat.pow_succ]
            omega)
          have hmul : n * base ≤ 268435456 * 16 := Nat.mul_le_mul (by omega) hb
          have d4 : ¬ (dn : Int) < 0 := by omega
          have d5 : ¬ (base : Int) ≤ (dn : Int) := by omega
          have HW3 := Lib.hid (show wrap64 (wrap64 ((n : Int) * (base : Int)) + (dn : Int)) = ((n * base + dn : Nat) : Int) from wrap_two n base dn hmul (by omega))
          clear hA2 hst hdr hD hok hmul hAn hN hK
          go_wp2_with (go_at_call 147; rw [HWb.out]; refine (hbs _).mono ?_; rintro e w1 ⟨rfl, rfl⟩)
          go_roundg (digits - (i + 1))
          case measure => omega
          case rel => exact ⟨i + 1, n * base + dn, rfl, by omega, by rw [HW3.out], by go_num, rfl, hN2, hA3⟩
        · have hAz : A = none := by rw [hst, numOf_stop (by rw [← hD]; exact hok)]
          subst hAz
          clear hst hdr hD hAn hN hK
          by_cases hneg : D < 0
          · clear hok
            go_wp2_with (go_at_call 147; rw [HWb.out]; refine (hbs _).mono ?_; rintro e w1 ⟨rfl, rfl⟩)
            go_ret
            exact ⟨rfl, Below.refl _ _⟩
          · have d5 : (base : Int) ≤ D := by omega
            clear hok
            go_wp2_with (go_at_call 147; rw [HWb.out]; refine (hbs _).mono ?_; rintro e w1 ⟨rfl, rfl⟩)
            go_ret
            exact ⟨rfl, Below.refl _ _⟩
      · have he : i = digits := by omega
        have hAz : A = some (n, s.data.toList.drop (k + digits)) := by rw [hAn.out, he, Nat.sub_self]; rfl
        subst hAz
        clear hAn hN
        go_wp2
        go_ret
        exact ⟨rfl, Below.refl _ _⟩
end Go.Proofs.YtoffjpgobhcipaaGreatDoor

/-
  Layer 6: contract of the document's small.
-/
namespace Go.Proofs.YtoffjpgobhcipaaGreatDoor
open Go.ChangeShapes Go.WideShapes Go.ChangeAt Go.RowKit

/-- what a number below 256 says -/
def smallOf (n : Nat) (m : UInt8) : List UInt8 := if m = 34 then [UInt8.ofNat n] else form n
theorem docsmall_any (n : Nat) (hn : n ≤ 255) (m : UInt8) (w : World) :
    Calls Tryz.prog 133 #[.int .i64 n, .int .u8 m.toNat] w fun e w' => e = .returned (.string ⟨(smallOf n m).toArray⟩) ∧ Below w.heap.size w w' := by
  have b34 := bytes_n m 34 34 rfl
  by_cases h34 : m = 34
  · have hr : smallOf n m = [UInt8.ofNat n] := by unfold smallOf; rw [if_pos h34]
    rw [decide_eq_true h34] at b34
    have hcv := conv_new w [(n : Int)] _ 1 rfl rfl
    simp only [List.map_cons, List.map_nil, Int.toNat_natCast] at hcv
    rw [hr]
    clear hr h34
    go_enter Tryz.func133, Tryz.ntmps133
    go_wp2
    go_ret
    exact ⟨rfl, (Below.refl _ w).alloc (Nat.le_refl _) _⟩
  · have hr : smallOf n m = form n := by unfold smallOf; rw [if_neg h34]
    rw [decide_eq_false h34] at b34
    rw [hr]
    clear hr h34
    go_enter Tryz.func133, Tryz.ntmps133
    go_wp2_with (go_at_call 121; refine (rform_any _ _).mono ?_; rintro e w1 ⟨rfl, hB⟩)
    go_ret
    exact ⟨rfl, hB⟩
end Go.Proofs.YtoffjpgobhcipaaGreatDoor

/-
  Layer 6: the document's escape: a result that lies in a block of the call's own.
-/
namespace Go.Proofs.YtoffjpgobhcipaaGreatDoor
open Go.ChangeShapes Go.WideShapes Go.ChangeAt Go.RowKit
/-- an item: how many bytes it has, what it says -/
def item (o : Option (List UInt8 × Nat)) : Value :=
  match o with
  | some (L, n) => .agg #[.int .i64 n, .string ⟨L.toArray⟩]
  | none => .agg #[.int .i64 0, .string ⟨#[]⟩]
set_option maxHeartbeats 4000000 in
theorem docesc_end (s : ByteArray) (hs : s.size ≤ 140737488351232) (k : Nat) (hk : k < s.size) (m : UInt8) (w : World) (hin : s.size ≤ k + 1) :
    Calls Tryz.prog 115 #[.string s, .int .i64 k, .int .u8 m.toNat] w fun e w' => e = .returned (item none) ∧ Below w.heap.size w w' := by
  have d1 : (s.size : Int) ≤ (k : Int) + 1 := by omega
  go_enter Tryz.func115, Tryz.ntmps115
  go_wp2
  refine bodyPost_ret (v := .agg #[.int .i64 0, .string ⟨#[]⟩]) (by rw [results_cell_row (p := 6) (ty := 107) rfl _ _ w.heap.size 107 #[.int .i64 0, .string ⟨#[]⟩] (0, 0) _ rfl (heap_alloc_new _ _) Tryz.underlying107 rfl rfl]) rfl ⟨rfl, (Below.refl _ w).alloc (Nat.le_refl _) _⟩
end Go.Proofs.YtoffjpgobhcipaaGreatDoor

/-
  Layer 6: strings.Builder at this program: copyCheck, WriteByte and WriteString.
-/
namespace Go.Proofs.YtoffjpgobhcipaaGreatDoor
open Go.ChangeShapes Go.WideShapes Go.ChangeAt Go.RowKit

theorem size45 : (Tryz.prog.info? 57).map (·.size) = some 2 := by kernel_rfl
theorem copyCheck_used (b : Nat) (w : World) (h0 : w.cell? ⟨b, 0, none⟩ = some (.pointer (some ⟨b, 0, none⟩))) :
    Calls Tryz.prog 59 #[.pointer (some ⟨b, 0, none⟩)] w fun e w' => e = .returned (.tuple #[]) ∧ w' = w := by
  obtain ⟨j, hj, _⟩ := Option.map_eq_some_iff.1 size45
  go_enter Tryz.func59, Tryz.ntmps59
  go_wp2
  rw [Lib.run_neq_ptr_same w _ Tryz.underlying54 hj]
  go_wp2
  go_end0
  exact ⟨rfl, rfl⟩
theorem copyCheck_fresh (b : Nat) (w : World) (h0 : w.cell? ⟨b, 0, none⟩ = some (.pointer none)) (hsh : w.shape? b = some (57, 2)) (hfz : w.frozen? ⟨b, 0, none⟩ = false) :
    Calls Tryz.prog 59 #[.pointer (some ⟨b, 0, none⟩)] w fun e w' => e = .returned (.tuple #[]) ∧ w' = w.setCell ⟨b, 0, none⟩ (.pointer (some ⟨b, 0, none⟩)) := by
  obtain ⟨j, hj, hjs⟩ := Option.map_eq_some_iff.1 size45
  go_enter Tryz.func59, Tryz.ntmps59
  go_wp2
  rw [Lib.run_to_unsafe w ⟨b, 0, none⟩ Tryz.underlying54 Tryz.underlying98 hj (by rw [hjs]; decide) hsh (Nat.zero_lt_succ 1)]
  simp only [Result.andThen]
  rw [Oper.upon_value]
  go_wp2
  rw [run_callFunc_extern Tryz.func80 (by kernel_rfl) (by kernel_rfl) (by kernel_rfl) (e := Extern.AbiNoEscape.same) (by kernel_rfl)]
  rw [Lib.run_noEscape]
  simp only [Result.andThen]
  rw [Oper.upon_value]
  go_wp2
  rw [Lib.run_from_unsafe w ⟨b, 0, none⟩ Tryz.underlying98 Tryz.underlying54 hj hsh (by kernel_rfl)]
  simp only [Result.andThen]
  rw [Oper.upon_value]
  go_wp2
  go_end0
  exact ⟨rfl, rfl⟩
theorem copyCheck_any (B b : Nat) (bs : List Value) (w : World) (h : Lib.IsBuilder 57 5 B b bs w) :
    Calls Tryz.prog 59 #[.pointer (some ⟨b, 0, none⟩)] w fun e w' => e = .returned (.tuple #[]) ∧ (Lib.BuilderAt 57 5 B b (.pointer (some ⟨b, 0, none⟩)) bs w' ∧ Below B w w') := by
  rcases h with h | h
  · refine (copyCheck_fresh b w h.cell0 h.shape h.frozen0).mono ?_
    rintro e w' ⟨rfl, rfl⟩
    exact ⟨rfl, h.used _, (Below.refl B w).setCell (p := ⟨b, 0, none⟩) h.1 _⟩
  · refine (copyCheck_used b w h.cell0).mono ?_
    rintro e w' ⟨rfl, rfl⟩
    exact ⟨rfl, h, Below.refl B _⟩
theorem writeString_any (B b : Nat) (bs : List Value) (s : ByteArray) (w : World) (h : Lib.IsBuilder 57 5 B b bs w) (hlen : bs.length + s.size ≤ 140737488355328) (hBw : B ≤ w.heap.size) :
    Calls Tryz.prog 39 #[.pointer (some ⟨b, 0, none⟩), .string s] w fun e w' => e = .returned (.tuple #[.int .i64 s.size, .nilIface]) ∧ (Lib.BuilderAt 57 5 B b (.pointer (some ⟨b, 0, none⟩)) (bs ++ Lib.strCells s) w' ∧ Below B w w') := by
  obtain ⟨i0, hi, hz0, hz1, hz2⟩ := info_parts info5
  go_enter Tryz.func39, Tryz.ntmps39
  go_wp2_with (go_at_call 59; refine (copyCheck_any B b bs _ h).mono ?_)
  rintro e w1 ⟨rfl, h1, hb1⟩
  obtain ⟨hB, v, hbk, hown, hne⟩ := h1
  have c0 : w1.cell? ⟨b, 0, none⟩ = some (.pointer (some ⟨b, 0, none⟩)) := by rw [Lib.cell_of_heap hbk]; rfl
  have c1 : w1.cell? ⟨b, 1, none⟩ = some v := by rw [Lib.cell_of_heap hbk]; rfl
  go_wp2_with (at_builtin; refine Lib.wpList_append_own_string _ rfl _ _ 55 9 rfl B 5 i0 Tryz.underlying55 Tryz.underlying9 hi hz0 hz1 hz2 _ _ _ rfl hown s rfl ?c3 ?c4 ?c5 ?_)
  case c3 => unfold maxLen; omega
  case c4 => omega
  case c5 => have := hb1.size; omega
  intro v' w2 hown' hgrow _
  have hlt : b < w1.heap.size := (Array.getElem?_eq_some_iff.1 hbk).1
  have hb2 : w2.heap[b]? = some (.cells #[.pointer (some ⟨b, 0, none⟩), v] 57 (0, 0)) := by
    rw [hgrow.block b hlt (fun e => hne e.symm)]
    exact hbk
  have d0 : w2.cell? ⟨b, 0, none⟩ = some (.pointer (some ⟨b, 0, none⟩)) := by rw [Lib.cell_of_heap hb2]; rfl
  have d1 : w2.cell? ⟨b, 1, none⟩ = some v := by rw [Lib.cell_of_heap hb2]; rfl
  have f1 : w2.frozen? ⟨b, 1, none⟩ = false := Lib.frozen_of_heap hb2 1
  obtain ⟨ao, n', cap, rfl⟩ : ∃ ao n' cap, v' = .slice ao n' cap := by
    rcases hown'.2 with ⟨hv, _⟩ | ⟨g, cap, cur, hv, _⟩
    · exact ⟨_, _, _, hv⟩
    · exact ⟨_, _, _, hv⟩
  go_wp2
  go_ret2
  refine ⟨rfl, ?_, ?_⟩
  · exact Lib.BuilderAt.put (T := 57) (e := 5) hB hb2 (bs' := bs ++ Lib.strCells s) (by simpa [Lib.strCells_length] using hown') (by decide)
  · exact (hb1.grown hgrow (by have := hb1.size; omega) (fun k hk => (hown.lt k hk).1)).setCell (p := ⟨b, 1, none⟩) hB _
theorem writeByte_any (B b : Nat) (bs : List Value) (c : UInt8) (w : World) (h : Lib.IsBuilder 57 5 B b bs w) (hlen : bs.length + 1 ≤ 140737488355328) (hBw : B ≤ w.heap.size) :
    Calls Tryz.prog 38 #[.pointer (some ⟨b, 0, none⟩), .int .u8 c.toNat] w fun e w' => e = .returned .nilIface ∧ (Lib.BuilderAt 57 5 B b (.pointer (some ⟨b, 0, none⟩)) (bs ++ [.int .u8 c.toNat]) w' ∧ Below B w w') := by
  obtain ⟨i0, hi, hz0, hz1, hz2⟩ := info_parts info5
  go_enter Tryz.func38, Tryz.ntmps38
  go_wp2_with (go_at_call 59; refine (copyCheck_any B b bs _ h).mono ?_)
  rintro e w1 ⟨rfl, h1, hb1⟩
  obtain ⟨hB, v, hbk, hown, hne⟩ := h1
  have c0 : w1.cell? ⟨b, 0, none⟩ = some (.pointer (some ⟨b, 0, none⟩)) := by rw [Lib.cell_of_heap hbk]; rfl
  have c1 : w1.cell? ⟨b, 1, none⟩ = some v := by rw [Lib.cell_of_heap hbk]; rfl
  have hlt : b < w1.heap.size := (Array.getElem?_eq_some_iff.1 hbk).1
  have hB1 : B ≤ w1.heap.size := by have := hb1.size; omega
  go_wp2_with (at_builtin; refine wpList_append_own _ rfl _ _ 55 rfl B 5 i0 (.int .u8 0) 1 1 Tryz.underlying55 hi hz0 hz1 hz2 rfl (by decide) _ _ _ rfl (hown.alloc _) ⟨w1.heap.size, 0, none⟩ 1 1 [.int .u8 (c.toNat : Int)] rfl rfl ?c1 ?c2 ?c3 ?c4 ?c5 ?_)
  try any_goals (first | rfl | (unfold maxLen; omega) | omega | exact one_new _ _ _ | (intro u hu; simp at hu; subst hu; rfl; done) | (simp; omega))
  intro v' w2 hown' hgrow _
  have hb2 : w2.heap[b]? = some (.cells #[.pointer (some ⟨b, 0, none⟩), v] 57 (0, 0)) := by
    rw [hgrow.block b (by simp; omega) (fun e => hne e.symm)]
    show (w1.heap.push _)[b]? = _
    rw [Array.getElem?_push, if_neg (by omega)]
    exact hbk
  have d0 : w2.cell? ⟨b, 0, none⟩ = some (.pointer (some ⟨b, 0, none⟩)) := by rw [Lib.cell_of_heap hb2]; rfl
  have d1 : w2.cell? ⟨b, 1, none⟩ = some v := by rw [Lib.cell_of_heap hb2]; rfl
  have f1 : w2.frozen? ⟨b, 1, none⟩ = false := Lib.frozen_of_heap hb2 1
  obtain ⟨ao, n', cap, rfl⟩ := own_slice hown'
  go_wp2
  go_ret
  refine ⟨rfl, ?_, ?_⟩
  · exact Lib.BuilderAt.put (T := 57) (e := 5) hB hb2 (bs' := bs ++ [.int .u8 (c.toNat : Int)]) (by simpa using hown') (by decide)
  · exact ((hb1.alloc hB1 _).grown hgrow (by simp; omega) (fun k hk => (hown.lt k hk).1)).setCell (p := ⟨b, 1, none⟩) hB _
end Go.Proofs.YtoffjpgobhcipaaGreatDoor

/-
  Layer 6: contract of quoted.Quote.
-/
namespace Go.Proofs.YtoffjpgobhcipaaGreatDoor
open Go.ChangeShapes Go.WideShapes Go.ChangeAt Go.RowKit

/-- a small digit of base 16 -/
def hexd (n : Nat) : UInt8 := if n < 10 then UInt8.ofNat (48 + n) else UInt8.ofNat (87 + n)
/-- a byte as it stands within marks -/
def qb (c : UInt8) : List UInt8 :=
  if c = 34 ∨ c = 92 then [92, c] else if c = 10 then [92, 110] else if 32 ≤ c.toNat ∧ c.toNat ≤ 126 then [c] else [92, 120, hexd (c.toNat / 16), hexd (c.toNat % 16)]
theorem qb_len (c : UInt8) : (qb c).length ≤ 4 := by
  unfold qb; split
  · simp
  · split
    · simp
    · split <;> simp
def qbs (l : List UInt8) : List UInt8 := l.flatMap qb
theorem qbs_len : ∀ l : List UInt8, (qbs l).length ≤ 4 * l.length
  | [] => by simp [qbs]
  | c :: t => by
    have h1 := qb_len c
    have h2 := qbs_len t
    unfold qbs at h2 ⊢
    rw [List.flatMap_cons, List.length_append, List.length_cons]; omega
def quoteOf (l : List UInt8) : List UInt8 := 34 :: (qbs l ++ [34])
theorem qbs_snoc (s : ByteArray) (k : Nat) (h : k < s.size) : qbs (s.data.toList.take (k + 1)) = qbs (s.data.toList.take k) ++ qb s[k] := by
  rw [List.take_succ_eq_append_getElem (by simpa using h)]
  unfold qbs
  rw [List.flatMap_append]
  simp [ByteArray.getElem_eq_getElem_data]
theorem hex_at (n : Nat) (h : n < 16) : (⟨#[48, 49, 50, 51, 52, 53, 54, 55, 56, 57, 97, 98, 99, 100, 101, 102]⟩ : ByteArray)[n]'h = hexd n := by
  have h1 : ∀ n : Fin 16, (⟨#[48, 49, 50, 51, 52, 53, 54, 55, 56, 57, 97, 98, 99, 100, 101, 102]⟩ : ByteArray)[n.1]'n.2 = hexd n.1 := by decide
  exact h1 ⟨n, h⟩
theorem cells_one (c : UInt8) : Lib.byteCells [c] = [Value.int .u8 (c.toNat : Int)] := rfl

set_option maxHeartbeats 4000000 in
theorem quote_any (s : ByteArray) (hs : s.size ≤ 1099511627776) (w : World) :
    Calls Tryz.prog 41 #[.string s] w fun e w' => e = .returned (.string ⟨(quoteOf s.data.toList).toArray⟩) ∧ Below w.heap.size w w' := by
  go_enter Tryz.func41, Tryz.ntmps41
  go_wp2_with fail
  go_at_call 38
  refine (writeByte_any w.heap.size w.heap.size (Lib.byteCells []) 34 _ (Lib.fresh_isBuilder 57 5 w) (by decide) (by simp)).mono ?_
  rintro e w1 ⟨rfl, hI, hB⟩
  replace hB : Below w.heap.size w w1 := ((Below.refl _ w).alloc (Nat.le_refl _) _).trans hB
  replace hI : Lib.IsBuilder 57 5 w.heap.size w.heap.size (Lib.byteCells (34 :: qbs (s.data.toList.take 0))) w1 := .inr hI
  go_wp2_with fail
  go_loopw [4] (fun i wr => ∃ k : Nat, k ≤ s.size ∧ i = .int .i64 k ∧ Lib.IsBuilder 57 5 w.heap.size w.heap.size (Lib.byteCells (34 :: qbs (s.data.toList.take k))) wr ∧ Below w.heap.size w wr) (fun i _ => s.size - (intOf i).toNat)
  case atStart => exact ⟨0, Nat.zero_le _, rfl, hI, hB⟩
  case round =>
    clear hI hB
    obtain ⟨k, hk, rfl, hI, hB⟩ := hrel
    have hbs := hB.size
    have hln : (Lib.byteCells (34 :: qbs (s.data.toList.take k))).length ≤ 8796093022208 := by
      rw [Lib.byteCells_length, List.length_cons]
      have h1 := qbs_len (s.data.toList.take k)
      have h2 := List.length_take_le k s.data.toList
      omega
    by_cases hlt : k < s.size
    · have hsn := qbs_snoc s k hlt
      have HS : Lib.byteCells (34 :: qbs (s.data.toList.take (k + 1))) = Lib.byteCells (34 :: qbs (s.data.toList.take k)) ++ Lib.byteCells (qb s[k]) := by
        rw [hsn, ← List.cons_append, Lib.byteCells_append]
      obtain ⟨C, hC⟩ : ∃ C, C = Lib.byteCells (34 :: qbs (s.data.toList.take k)) := ⟨_, rfl⟩
      rw [← hC] at hI hln HS
      have HSH := Lib.hid HS
      clear HS hsn hC
      have b34 := bytes_n s[k] 34 34 rfl
      have b92 := bytes_n s[k] 92 92 rfl
      have b10 := bytes_n s[k] 10 10 rfl
      by_cases hq : s[k] = 34 ∨ s[k] = 92
      · have HQ := Lib.hid (show qb s[k] = [92, s[k]] by unfold qb; rw [if_pos hq])
        have hor : ((s[k].toNat : Int) == 34) = true ∨ (((s[k].toNat : Int) == 34) = false ∧ ((s[k].toNat : Int) == 92) = true) := by
          by_cases h : s[k] = 34
          · left; rw [b34]; exact decide_eq_true h
          · right; refine ⟨?_, ?_⟩
            · rw [b34]; exact decide_eq_false h
            · rw [b92]; exact decide_eq_true (hq.resolve_left h)
        clear hq b34 b92 b10
        rcases hor with h1 | ⟨h1, h2⟩
        all_goals
          go_wp2_with fail
          go_at_call 38
          refine (writeByte_any _ _ _ 92 _ hI (by omega) hbs).mono ?_
          rintro e w1 ⟨rfl, hI1, hB1⟩
          replace hB := hB.trans hB1
          go_wp2_with fail
          go_at_call 38
          refine (writeByte_any _ _ _ s[k] _ (.inr hI1) (by simp; omega) hB.size).mono ?_
          rintro e w2 ⟨rfl, hI2, hB2⟩
          replace hB := hB.trans hB2
          have hI3 : Lib.IsBuilder 57 5 w.heap.size w.heap.size (Lib.byteCells (34 :: qbs (s.data.toList.take (k + 1)))) w2 := by
            rw [HSH.out, HQ.out, show Lib.byteCells [92, s[k]] = [Value.int .u8 ((92 : UInt8).toNat : Int)] ++ [Value.int .u8 (s[k].toNat : Int)] from rfl, ← List.append_assoc]
            exact .inr hI2
          go_wp2_with fail
          go_roundw
          case rel => exact ⟨k + 1, by omega, by go_num, hI3, hB⟩
          case measure => simp [intOf]; omega
      have g34 : ((s[k].toNat : Int) == 34) = false := by rw [b34]; exact decide_eq_false fun h => hq (.inl h)
      have g92 : ((s[k].toNat : Int) == 92) = false := by rw [b92]; exact decide_eq_false fun h => hq (.inr h)
      by_cases h10 : s[k] = 10
      · have HQ := Lib.hid (show qb s[k] = [92, 110] by unfold qb; rw [if_neg hq, if_pos h10])
        rw [decide_eq_true h10] at b10
        clear hq b34 b92 h10
        go_wp2_with fail
        go_at_call 39
        refine (writeString_any _ _ _ ⟨#[92, 110]⟩ _ hI (by have : (⟨#[92, 110]⟩ : ByteArray).size = 2 := rfl; omega) hbs).mono ?_
        rintro e w1 ⟨rfl, hI1, hB1⟩
        replace hB := hB.trans hB1
        have hI3 : Lib.IsBuilder 57 5 w.heap.size w.heap.size (Lib.byteCells (34 :: qbs (s.data.toList.take (k + 1)))) w1 := by
          rw [HSH.out, HQ.out]
          exact .inr hI1
        go_wp2_with fail
        go_roundw
        case rel => exact ⟨k + 1, by omega, by go_num, hI3, hB⟩
        case measure => simp [intOf]; omega
      rw [decide_eq_false h10] at b10
      by_cases hp : 32 ≤ s[k].toNat ∧ s[k].toNat ≤ 126
      · have HQ := Lib.hid (show qb s[k] = [s[k]] by unfold qb; rw [if_neg hq, if_neg h10, if_pos hp])
        have p1 : (32 : Int) ≤ (s[k].toNat : Int) := by omega
        have p2 : (s[k].toNat : Int) ≤ 126 := by omega
        clear hq b34 b92 h10 hp
        go_wp2_with fail
        go_at_call 38
        refine (writeByte_any _ _ _ s[k] _ hI (by omega) hbs).mono ?_
        rintro e w1 ⟨rfl, hI1, hB1⟩
        replace hB := hB.trans hB1
        have hI3 : Lib.IsBuilder 57 5 w.heap.size w.heap.size (Lib.byteCells (34 :: qbs (s.data.toList.take (k + 1)))) w1 := by
          rw [HSH.out, HQ.out]
          exact .inr hI1
        go_wp2_with fail
        go_roundw
        case rel => exact ⟨k + 1, by omega, by go_num, hI3, hB⟩
        case measure => simp [intOf]; omega
      · have HQ := Lib.hid (show qb s[k] = [92, 120, hexd (s[k].toNat / 16), hexd (s[k].toNat % 16)] by unfold qb; rw [if_neg hq, if_neg h10, if_neg hp])
        have hlt' := s[k].toNat_lt
        have hp2 : ¬ (32 : Int) ≤ (s[k].toNat : Int) ∨ ((32 : Int) ≤ (s[k].toNat : Int) ∧ ¬ (s[k].toNat : Int) ≤ 126) := by omega
        clear hq b34 b92 h10 hp
        rcases hp2 with p1 | ⟨p1, p2⟩
        all_goals
          go_wp2_with fail
          go_at_call 39
          refine (writeString_any _ _ _ ⟨#[92, 120]⟩ _ hI (by have : (⟨#[92, 120]⟩ : ByteArray).size = 2 := rfl; omega) hbs).mono ?_
          rintro e w1 ⟨rfl, hI1, hB1⟩
          replace hB := hB.trans hB1
          go_wp2_with fail
          go_at_call 38
          rw [hex_at _ (by omega)]
          refine (writeByte_any _ _ _ (hexd (s[k].toNat / 16)) _ (.inr hI1) (by rw [List.length_append, Lib.strCells_length]; have : (⟨#[92, 120]⟩ : ByteArray).size = 2 := rfl; omega) hB.size).mono ?_
          rintro e w2 ⟨rfl, hI2, hB2⟩
          replace hB := hB.trans hB2
          go_wp2_with fail
          go_at_call 38
          rw [hex_at _ (by omega)]
          refine (writeByte_any _ _ _ (hexd (s[k].toNat % 16)) _ (.inr hI2) (by rw [List.length_append, List.length_append, Lib.strCells_length]; have : (⟨#[92, 120]⟩ : ByteArray).size = 2 := rfl; simp; omega) hB.size).mono ?_
          rintro e w3 ⟨rfl, hI3', hB3⟩
          replace hB := hB.trans hB3
          have hI3 : Lib.IsBuilder 57 5 w.heap.size w.heap.size (Lib.byteCells (34 :: qbs (s.data.toList.take (k + 1)))) w3 := by
            rw [HSH.out, HQ.out, show Lib.byteCells [92, 120, hexd (s[k].toNat / 16), hexd (s[k].toNat % 16)] = Lib.strCells ⟨#[92, 120]⟩ ++ ([Value.int .u8 ((hexd (s[k].toNat / 16)).toNat : Int)] ++ [Value.int .u8 ((hexd (s[k].toNat % 16)).toNat : Int)]) from rfl, ← List.append_assoc, ← List.append_assoc]
            exact .inr hI3'
          go_wp2_with fail
          go_roundw
          case rel => exact ⟨k + 1, by omega, by go_num, hI3, hB⟩
          case measure => simp [intOf]; omega
    · have hk' : k = s.size := by omega
      have hI3 : Lib.IsBuilder 57 5 w.heap.size w.heap.size (Lib.byteCells (34 :: qbs s.data.toList)) wr := by
        rw [show s.data.toList = s.data.toList.take k by rw [List.take_of_length_le (by simp; omega)]]
        exact hI
      clear hI
      have HL := Lib.hid (show (Lib.byteCells (34 :: qbs s.data.toList)).length ≤ 8796093022208 by
        rw [Lib.byteCells_length, List.length_cons]
        have h1 := qbs_len s.data.toList
        simp at h1; omega)
      have HQ := Lib.hid (show Lib.byteCells (quoteOf s.data.toList) = Lib.byteCells (34 :: qbs s.data.toList) ++ [Value.int .u8 34] by
        unfold quoteOf
        rw [← List.cons_append, Lib.byteCells_append]; rfl)
      clear hk' hln
      go_wp2_with fail
      go_at_call 38
      refine (writeByte_any _ _ _ 34 _ hI3 (by have := HL.out; omega) hbs).mono ?_
      rintro e w1 ⟨rfl, hI1, hB1⟩
      replace hB := hB.trans hB1
      have hI4 : Lib.IsBuilder 57 5 w.heap.size w.heap.size (Lib.byteCells (quoteOf s.data.toList)) w1 := by
        rw [HQ.out]
        exact .inr hI1
      go_wp2_with fail
      go_at_call 43
      refine (Tryz.Builder_String_any _ _ _ _ hI4 hB.size).mono ?_
      rintro e w2 ⟨rfl, hB2⟩
      go_wp2_with fail
      go_ret
      exact ⟨rfl, hB.trans hB2⟩
end Go.Proofs.YtoffjpgobhcipaaGreatDoor

/-
  Layer 6: contract of the document's Quote.
-/
namespace Go.Proofs.YtoffjpgobhcipaaGreatDoor
open Go.ChangeShapes Go.WideShapes Go.ChangeAt Go.RowKit

theorem row_new (w : World) (xs : List Value) (t : TypeId) : ∀ j u, xs[j]? = some u → (w.alloc (.cells xs.toArray t)).cell? ((⟨w.heap.size, 0, none⟩ : Addr).add j) = some u := by
  intro j u hj
  have ha : (⟨w.heap.size, 0, none⟩ : Addr).add j = ⟨w.heap.size, j, none⟩ := by unfold Addr.add; split <;> simp_all
  rw [ha]
  unfold World.cell?
  have : (w.alloc (.cells xs.toArray t)).heap[w.heap.size]? = some (.cells xs.toArray t (0, 0)) := by show (w.heap.push _)[w.heap.size]? = _; simp
  simp only [this]
  simpa using hj
/-- a row of bytes of a call's own -/
def Own (w : World) (B : Nat) (v : Value) (T : List UInt8) : Prop := w.ownsRow B 5 1 v T.length (bvals T)
theorem Own.grew {w wr w1 : World} {B : Nat} {v v' : Value} {T L : List UInt8} {o : Obj} (h : Own wr B v T) (hB : Below B w wr) (hl : B ≤ wr.heap.size) (ho : w1.ownsRow B 5 1 v' (T.length + L.length) (bvals T ++ bvals L)) (hg : (wr.alloc o).grownBy w1 v.ownBlock) :
    Own w1 B v' (T ++ L) ∧ Below B w w1 := by
  refine ⟨?_, ?_⟩
  · unfold Own; rw [List.length_append, bvals_app]; exact ho
  · exact (hB.alloc hl o).grown hg (by simp; omega) (fun q hq => (World.ownsRow.lt h q hq).1)
theorem Own.own {w : World} {B : Nat} {v : Value} {T : List UInt8} (h : Own w B v T) : w.ownsRow B 5 1 v T.length (bvals T) := h
theorem Own.alloc {w : World} {B : Nat} {v : Value} {T : List UInt8} (h : Own w B v T) (o : Obj) : (w.alloc o).ownsRow B 5 1 v T.length (bvals T) := World.ownsRow.alloc h o
set_option maxHeartbeats 4000000 in
theorem rquote_any (s : ByteArray) (hs : s.size ≤ 1099511627776) (w : World) :
    Calls Tryz.prog 62 #[.string s] w fun e w' => e = .returned (.string ⟨(quoteOf s.data.toList).toArray⟩) ∧ Below w.heap.size w w' := by
  obtain ⟨i0, hi, hz0, hz1, hz2⟩ := info_parts info5
  have hO : Own (w.alloc (.cells #[.int .u8 34] 5)) w.heap.size (.slice (some ⟨w.heap.size, 0, none⟩) 1 1) (34 :: qbs (s.data.toList.take 0)) := World.ownsRow_lit w #[.int .u8 34] 1 (Nat.le_refl _) (by decide) rfl
  have hB := (Below.refl w.heap.size w).alloc (Nat.le_refl _) (.cells #[.int .u8 34] 5)
  go_enter Tryz.func62, Tryz.ntmps62
  go_wp2_with fail
  go_loopw [4, 5] (fun v i wr => ∃ k : Nat, k ≤ s.size ∧ i = .int .i64 k ∧ Own wr w.heap.size v (34 :: qbs (s.data.toList.take k)) ∧ Below w.heap.size w wr) (fun _ i _ => s.size - (intOf i).toNat)
  case atStart => exact ⟨0, Nat.zero_le _, rfl, hO, hB⟩
  case round =>
    clear hO hB
    obtain ⟨k, hk, rfl, hO, hB⟩ := hrel
    have hbs := hB.size
    have hln : (34 :: qbs (s.data.toList.take k)).length ≤ 8796093022208 := by
      rw [List.length_cons]
      have h1 := qbs_len (s.data.toList.take k)
      have h2 := List.length_take_le k s.data.toList
      omega
    by_cases hlt : k < s.size
    · have hsn := qbs_snoc s k hlt
      have HS : 34 :: qbs (s.data.toList.take (k + 1)) = 34 :: qbs (s.data.toList.take k) ++ qb s[k] := by
        rw [hsn, ← List.cons_append]
      obtain ⟨C, hC⟩ : ∃ C, C = 34 :: qbs (s.data.toList.take k) := ⟨_, rfl⟩
      rw [← hC] at hO hln HS
      have HSH := Lib.hid HS
      clear HS hsn hC
      have b34 := bytes_n s[k] 34 34 rfl
      have b92 := bytes_n s[k] 92 92 rfl
      have b10 := bytes_n s[k] 10 10 rfl
      by_cases h10 : s[k] = 10
      · have hq : ¬ (s[k] = 34 ∨ s[k] = 92) := by rw [h10]; decide
        have HQ := Lib.hid (show qb s[k] = [92, 110] by unfold qb; rw [if_neg hq, if_pos h10])
        rw [decide_eq_true h10] at b10
        clear hq b34 b92 h10
        go_wp2_with (at_builtin; refine wpList_append_own _ rfl _ _ 55 rfl w.heap.size 5 i0 (.int .u8 0) 1 1 Tryz.underlying55 hi hz0 hz1 hz2 rfl (by decide) _ _ _ rfl (hO.alloc _) ⟨wr.heap.size, 0, none⟩ 2 2 (bvals [92, 110]) rfl rfl (row_new _ _ _) ?_ ?_ ?_ ?_ ?_)
        · intro u hu; simp [bvals] at hu; rcases hu with rfl | rfl <;> rfl
        · unfold maxLen; omega
        · omega
        · simp; omega
        intro v' w1 hown' hgrow _
        obtain ⟨hO1, hB1⟩ := hO.grew hB hbs (L := [92, 110]) hown' hgrow
        have hO2 : Own w1 w.heap.size v' (34 :: qbs (s.data.toList.take (k + 1))) := by rw [HSH.out, HQ.out]; exact hO1
        clear hown' hgrow hO1
        go_wp2_with fail
        go_roundw
        case rel => exact ⟨k + 1, by omega, by go_num, hO2, hB1⟩
        case measure => simp [intOf]; omega
      rw [decide_eq_false h10] at b10
      by_cases hq : s[k] = 34 ∨ s[k] = 92
      · have HQ := Lib.hid (show qb s[k] = [92, s[k]] by unfold qb; rw [if_pos hq])
        have hor : ((s[k].toNat : Int) == 34) = true ∨ (((s[k].toNat : Int) == 34) = false ∧ ((s[k].toNat : Int) == 92) = true) := by
          by_cases h : s[k] = 34
          · left; rw [b34]; exact decide_eq_true h
          · right; refine ⟨?_, ?_⟩
            · rw [b34]; exact decide_eq_false h
            · rw [b92]; exact decide_eq_true (hq.resolve_left h)
        clear hq b34 b92 h10
        rcases hor with h1 | ⟨h1, h2⟩
        all_goals
          go_wp2_with (at_builtin; refine wpList_append_own _ rfl _ _ 55 rfl w.heap.size 5 i0 (.int .u8 0) 1 1 Tryz.underlying55 hi hz0 hz1 hz2 rfl (by decide) _ _ _ rfl (hO.alloc _) ⟨wr.heap.size, 0, none⟩ 2 2 (bvals [92, s[k]]) rfl rfl (row_new _ _ _) ?_ ?_ ?_ ?_ ?_)
          · intro u hu; simp [bvals] at hu; rcases hu with rfl | rfl <;> rfl
          · unfold maxLen; omega
          · omega
          · simp; omega
          intro v' w1 hown' hgrow _
          obtain ⟨hO1, hB1⟩ := hO.grew hB hbs (L := [92, s[k]]) hown' hgrow
          have hO2 : Own w1 w.heap.size v' (34 :: qbs (s.data.toList.take (k + 1))) := by rw [HSH.out, HQ.out]; exact hO1
          clear hown' hgrow hO1
          go_wp2_with fail
          go_roundw
          case rel => exact ⟨k + 1, by omega, by go_num, hO2, hB1⟩
          case measure => simp [intOf]; omega
      have g34 : ((s[k].toNat : Int) == 34) = false := by rw [b34]; exact decide_eq_false fun h => hq (.inl h)
      have g92 : ((s[k].toNat : Int) == 92) = false := by rw [b92]; exact decide_eq_false fun h => hq (.inr h)
      by_cases hp : 32 ≤ s[k].toNat ∧ s[k].toNat ≤ 126
      · have HQ := Lib.hid (show qb s[k] = [s[k]] by unfold qb; rw [if_neg hq, if_neg h10, if_pos hp])
        have p1 : (32 : Int) ≤ (s[k].toNat : Int) := by omega
        have p2 : (s[k].toNat : Int) ≤ 126 := by omega
        clear hq b34 b92 h10 hp
        go_wp2_with (at_builtin; refine wpList_append_own _ rfl _ _ 55 rfl w.heap.size 5 i0 (.int .u8 0) 1 1 Tryz.underlying55 hi hz0 hz1 hz2 rfl (by decide) _ _ _ rfl (hO.alloc _) ⟨wr.heap.size, 0, none⟩ 1 1 (bvals [s[k]]) rfl rfl (row_new _ _ _) ?_ ?_ ?_ ?_ ?_)
        · intro u hu; simp [bvals] at hu; subst hu; rfl
        · unfold maxLen; omega
        · omega
        · simp; omega
        intro v' w1 hown' hgrow _
        obtain ⟨hO1, hB1⟩ := hO.grew hB hbs (L := [s[k]]) hown' hgrow
        have hO2 : Own w1 w.heap.size v' (34 :: qbs (s.data.toList.take (k + 1))) := by rw [HSH.out, HQ.out]; exact hO1
        clear hown' hgrow hO1
        go_wp2_with fail
        go_roundw
        case rel => exact ⟨k + 1, by omega, by go_num, hO2, hB1⟩
        case measure => simp [intOf]; omega
      · have HQ := Lib.hid (show qb s[k] = [92, 120, hexd (s[k].toNat / 16), hexd (s[k].toNat % 16)] by unfold qb; rw [if_neg hq, if_neg h10, if_neg hp])
        have hlt' := s[k].toNat_lt
        have hp2 : ¬ (32 : Int) ≤ (s[k].toNat : Int) ∨ ((32 : Int) ≤ (s[k].toNat : Int) ∧ ¬ (s[k].toNat : Int) ≤ 126) := by omega
        clear hq b34 b92 h10 hp
        rcases hp2 with p1 | ⟨p1, p2⟩
        all_goals
          obtain ⟨n1, hn1⟩ : ∃ n1, n1 = s[k].toNat / 16 := ⟨_, rfl⟩
          obtain ⟨n2, hn2⟩ : ∃ n2, n2 = s[k].toNat % 16 := ⟨_, rfl⟩
          have l1 : n1 < 16 := by omega
          have l2 : n2 < 16 := by omega
          have l1' : (n1 : Int) < 16 := by omega
          have l2' : (n2 : Int) < 16 := by omega
          have q1 : IntKind.u8.wrap (n1 : Int) = (n1 : Int) := by rw [IntKind.wrap_u8]; omega
          have q2 : IntKind.u8.wrap (n2 : Int) = (n2 : Int) := by rw [IntKind.wrap_u8]; omega
          have q3 : (s[k].toNat : Int) / 16 = (n1 : Int) := by omega
          have q4 : Int.tmod (s[k].toNat : Int) 16 = (n2 : Int) := by rw [Int.tmod_eq_emod_of_nonneg (by omega)]; omega
          have x1 := hex_at n1 l1
          have x2 := hex_at n2 l2
          have HN := Lib.hid (And.intro hn1 hn2)
          clear hn1 hn2
          go_upto_region 13 with fail
          go_region_law (refine step_append_lies _ rfl _ _ 55 rfl w.heap.size 5 i0 (.int .u8 0) 1 1 Tryz.underlying55 hi hz0 hz1 hz2 rfl (by decide) _ _ _ rfl (World.ownsRow.drew (hO.alloc _)) ⟨wr.heap.size, 0, none⟩ 4 4 (bvals [92, 120, hexd n1, hexd n2]) rfl rfl (fun j u h => row_new wr _ _ j u h) (by intro u hu; simp [bvals] at hu; rcases hu with rfl | rfl | rfl | rfl <;> rfl) (by omega) (by unfold maxLen; omega) (by omega) (by simp; omega) _ rfl ?_; intro g' cap' w4 hown3 hg3 hat hlt4; have G1 := Own.grew (wr := wr.drew) (L := [92, 120, hexd n1, hexd n2]) hO hB.drew hbs hown3 hg3; have G2 := Lib.hid G1; clear G1 hown3 hg3 hat hlt4)
          all_goals
            have hO2 := Lib.hid (show Own w4 w.heap.size _ (34 :: qbs (s.data.toList.take (k + 1))) by rw [HSH.out, HQ.out, ← HN.out.1, ← HN.out.2]; exact G2.out.1)
            go_wp2_with fail
            go_roundw
            case rel => exact ⟨k + 1, by omega, by go_num, hO2.out, G2.out.2⟩
            case measure => simp [intOf]; omega
    · have hk' : k = s.size := by omega
      rw [show s.data.toList.take k = s.data.toList by rw [List.take_of_length_le (by simp; omega)]] at hO hln
      obtain ⟨C, hC⟩ : ∃ C, C = 34 :: qbs s.data.toList := ⟨_, rfl⟩
      have HQ := Lib.hid (show quoteOf s.data.toList = C ++ [34] by rw [hC]; rfl)
      rw [← hC] at hO hln
      clear hk' hC
      go_wp2_with (at_builtin; refine wpList_append_own _ rfl _ _ 55 rfl w.heap.size 5 i0 (.int .u8 0) 1 1 Tryz.underlying55 hi hz0 hz1 hz2 rfl (by decide) _ _ _ rfl (hO.alloc _) ⟨wr.heap.size, 0, none⟩ 1 1 (bvals [34]) rfl rfl (row_new _ _ _) ?_ ?_ ?_ ?_ ?_)
      · intro u hu; simp [bvals] at hu; subst hu; rfl
      · unfold maxLen; omega
      · omega
      · simp; omega
      intro v' w1 hown' hgrow _
      obtain ⟨hO1, hB1⟩ := hO.grew hB hbs (L := [34]) hown' hgrow
      have hcv := conv_own hO1.own
      rw [← HQ.out] at hcv
      clear hown' hgrow
      go_wp2_with fail
      go_ret
      exact ⟨rfl, hB1⟩
end Go.Proofs.YtoffjpgobhcipaaGreatDoor

/-
  Layer 6: the document's escape, where the byte behind the backslash is none of the eight names.
-/
namespace Go.Proofs.YtoffjpgobhcipaaGreatDoor
open Go.ChangeShapes Go.WideShapes Go.ChangeAt Go.RowKit

theorem info56 : (Tryz.prog.info? 107).map (·.size) = some 2 := by kernel_rfl
theorem setRow_at {w : World} {g : Nat} {cs new : Array Value} {t : TypeId} {fr : Nat × Nat} (h : w.heap[g]? = some (.cells cs t fr)) : (w.setRow g new).heap[g]? = some (.cells new t fr) := by
  have hlt := (Array.getElem?_eq_some_iff.1 h).1
  show (w.heap.modify g _)[g]? = _
  rw [Array.getElem?_modify, if_pos rfl, h]; rfl
/-- is a byte none of the eight names? -/
def NoName (c : UInt8) : Prop := ∀ n (h : n < 8), (⟨#[97, 98, 102, 110, 114, 116, 118, 92]⟩ : ByteArray)[n]'h ≠ c
theorem noname_eq {c : UInt8} (hN : NoName c) (n : Nat) (h : n < 8) : ((((⟨#[97, 98, 102, 110, 114, 116, 118, 92]⟩ : ByteArray)[n]'h).toNat : Int) == (c.toNat : Int)) = false := by
  rw [bytes_eq]; exact decide_eq_false (hN n h)
/-- the world ahead of the loop over the names -/
def W0 (w : World) : World := (w.alloc (.cells #[.int .i64 0, .string ⟨#[]⟩] 107)).alloc (.cells #[.int .u8 7, .int .u8 8, .int .u8 12, .int .u8 10, .int .u8 13, .int .u8 9, .int .u8 11, .int .u8 92] 5)
theorem W0_size (w : World) : (W0 w).heap.size = w.heap.size + 1 + 1 := by simp [W0]
theorem W0_row (w : World) : (W0 w).heap[w.heap.size]? = some (.cells #[.int .i64 0, .string ⟨#[]⟩] 107 (0, 0)) := by
  show ((w.heap.push _).push _)[w.heap.size]? = _
  rw [Array.getElem?_push, if_neg (by simp), Array.getElem?_push, if_pos rfl]
theorem W0_below (w : World) : Below w.heap.size w (W0 w) := ((Below.refl _ w).alloc (Nat.le_refl _) _).alloc (by simp) _
theorem row_alloc {w : World} {g : Nat} {o o' : Obj} (h : w.heap[g]? = some o) : (w.alloc o').heap[g]? = some o := by
  have hlt := (Array.getElem?_eq_some_iff.1 h).1
  show (w.heap.push o')[g]? = _
  rw [Array.getElem?_push, if_neg (by omega)]; exact h
theorem row_below {w w' : World} {B g : Nat} {o : Obj} (h : w.heap[g]? = some o) (hB : Below B w w') (hg : g < B) : w'.heap[g]? = some o := by
  rw [hB.block g hg]; exact h
theorem conv_W0 (w : World) (c : UInt8) : (convert 55 9 (.slice (some ⟨w.heap.size + 1 + 1, 0, none⟩) 1 1)).run Tryz.prog ((W0 w).alloc (.cells #[.int .u8 (c.toNat : Int)] 5)) = .ok (.string ⟨#[c]⟩) ((W0 w).alloc (.cells #[.int .u8 (c.toNat : Int)] 5)) := by
  have h := conv_new (W0 w) [(c.toNat : Int)] _ 1 rfl rfl
  rw [W0_size] at h
  simpa using h
set_option maxRecDepth 100000 in
set_option maxHeartbeats 4000000 in
theorem docesc_mark (s : ByteArray) (hs : s.size ≤ 140737488351232) (k : Nat) (hk : k + 1 < s.size) (m : UInt8) (hm : s[k + 1] = m) (hN : NoName m) (w : World) :
    Calls Tryz.prog 115 #[.string s, .int .i64 k, .int .u8 m.toNat] w fun e w' => e = .returned (item (some ([m], 2))) ∧ Below w.heap.size w w' := by
  obtain ⟨K, hK⟩ : ∃ K, k + 1 = K := ⟨_, rfl⟩
  have e1 : (k : Int) + 1 = (K : Int) := by omega
  have hKs : K < s.size := by omega
  have d1 : (K : Int) < s.size := by omega
  have d2 : (0 : Int) ≤ K := by omega
  have HC := Lib.hid (show s[K] = m by subst hK; exact hm)
  have HN := Lib.hid (show NoName s[K] by rw [HC.out]; exact hN)
  clear hm hN hk
  have hcv := conv_W0 w s[K]
  unfold W0 at hcv
  go_enter Tryz.func115, Tryz.ntmps115
  go_wp2
  go_loop [10] (fun i => ∃ n : Nat, n ≤ 8 ∧ i = .int .i64 n) (fun i => 8 - (intOf i).toNat)
  case atStart => exact ⟨0, by omega, rfl⟩
  case round =>
    obtain ⟨n, hn, rfl⟩ := hrel
    by_cases hlt : n < 8
    · have q := noname_eq HN.out n hlt
      have i1 : (n : Int) < 8 := by omega
      clear hcv
      go_wp2
      go_round
      case rel => exact ⟨n + 1, by omega, by go_num⟩
      case measure => simp [intOf]; omega
    · have i1 : ¬ (n : Int) < 8 := by omega
      have q : ((s[K].toNat : Int) == (m.toNat : Int)) = true := by rw [HC.out]; simp
      have HX := Lib.hid (row_alloc (o' := .cells #[.int .u8 (s[K].toNat : Int)] 5) (W0_row w))
      have HXB := Lib.hid ((W0_below w).alloc (by rw [W0_size]; omega) (.cells #[.int .u8 (s[K].toNat : Int)] 5))
      go_wp2_with (refine wpList_store_rowTo rfl 107 (.tmp 6) (.tmp 48) rfl rfl w.heap.size #[.int .i64 2, .string ⟨#[s[K]]⟩] rfl rfl 107 #[.int .i64 0, .string ⟨#[]⟩] HX.out info56 rfl (by simp [Value.oneCell']) ?_)
      go_wp2
      exact bodyPost_ret (v := .agg #[.int .i64 2, .string ⟨#[s[K]]⟩]) (results_cell_row rfl _ _ w.heap.size 107 _ (0, 0) _ rfl (setRow_at HX.out) Tryz.underlying107 rfl info56) rfl ⟨by rw [HC.out]; rfl, below_setRow HXB.out (Nat.le_refl _) _⟩
set_option maxRecDepth 100000 in
set_option maxHeartbeats 4000000 in
theorem docesc_x (s : ByteArray) (hs : s.size ≤ 140737488351232) (k : Nat) (hk : k + 1 < s.size) (m : UInt8) (hm : s[k + 1] ≠ m) (hN : NoName s[k + 1]) (hc : s[k + 1] = 120) (w : World) :
    Calls Tryz.prog 115 #[.string s, .int .i64 k, .int .u8 m.toNat] w fun e w' => e = .returned (item ((numOf 16 2 0 (s.data.toList.drop (k + 2))).map fun nr => (smallOf nr.1 m, 4))) ∧ Below w.heap.size w w' := by
  obtain ⟨K, hK⟩ : ∃ K, k + 1 = K := ⟨_, rfl⟩
  have e1 : (k : Int) + 1 = (K : Int) := by omega
  have hKs : K < s.size := by omega
  have d1 : (K : Int) < s.size := by omega
  have d2 : (0 : Int) ≤ K := by omega
  have HN := Lib.hid (show NoName s[K] by subst hK; exact hN)
  have qm : ((s[K].toNat : Int) == (m.toNat : Int)) = false := by rw [bytes_eq]; exact decide_eq_false (by subst hK; exact hm)
  have qx : ((s[K].toNat : Int) == 120) = true := by rw [bytes_n s[K] 120 120 rfl]; exact decide_eq_true (by subst hK; exact hc)
  obtain ⟨K2, hK2⟩ : ∃ K2, k + 2 = K2 := ⟨_, rfl⟩
  have e2 : (k : Int) + 2 = (K2 : Int) := by omega
  have hnum := docnum_any s hs K2 2 16 (by omega) (by decide) (by decide) (W0 w)
  rw [hK2]
  obtain ⟨A, hA⟩ : ∃ A, A = numOf 16 2 0 (s.data.toList.drop K2) := ⟨_, rfl⟩
  rw [← hA] at hnum ⊢
  have HA := Lib.hid hA
  unfold W0 at hnum
  clear hm hN hk hA hc
  go_enter Tryz.func115, Tryz.ntmps115
  go_wp2
  go_loop [10] (fun i => ∃ n : Nat, n ≤ 8 ∧ i = .int .i64 n) (fun i => 8 - (intOf i).toNat)
  case atStart => exact ⟨0, by omega, rfl⟩
  case round =>
    obtain ⟨n, hn, rfl⟩ := hrel
    by_cases hlt : n < 8
    · have q := noname_eq HN.out n hlt
      have i1 : (n : Int) < 8 := by omega
      clear hnum
      go_wp2
      go_round
      case rel => exact ⟨n + 1, by omega, by go_num⟩
      case measure => simp [intOf]; omega
    · have i1 : ¬ (n : Int) < 8 := by omega
      have HR := Lib.hid (W0_row w)
      have HB0 := Lib.hid (W0_below w)
      cases A with
      | none =>
        go_wp2_with (first
          | (go_at_call 132; refine hnum.mono ?_; rintro e w2 ⟨he, hB2⟩; have he' : e = .returned (.int .i64 (-1)) := he; clear he; subst he'; have HX := Lib.hid (row_below HR.out hB2 (by simp; omega)); have HXB := Lib.hid (HB0.out.trans (hB2.mono (by simp; omega))); clear hB2)
          | refine wpList_store_rowTo rfl 107 (.tmp 6) (.tmp 57) rfl rfl w.heap.size #[.int .i64 0, .string ⟨#[]⟩] rfl rfl 107 #[.int .i64 0, .string ⟨#[]⟩] HX.out info56 rfl (by simp [Value.oneCell']) ?_)
        go_wp2
        exact bodyPost_ret (v := .agg #[.int .i64 0, .string ⟨#[]⟩]) (results_cell_row rfl _ _ w.heap.size 107 _ (0, 0) _ rfl (setRow_at HX.out) Tryz.underlying107 rfl info56) rfl ⟨rfl, below_setRow HXB.out (Nat.le_refl _) _⟩
      | some nr =>
        obtain ⟨N, r⟩ := nr
        have hlt := numOf_lt 16 (by decide) _ _ _ _ _ HA.out.symm
        have hn1 : N ≤ 255 := by
          have : (16 : Nat) ^ 2 = 256 := by decide
          omega
        have hsm := fun w => docsmall_any N hn1 m w
        clear hlt hn1
        go_wp2_with (first
          | (go_at_call 132; refine hnum.mono ?_; rintro e w2 ⟨he, hB2⟩; have he' : e = .returned (.int .i64 N) := he; clear he; subst he'; have HX := Lib.hid (row_below HR.out hB2 (by simp; omega)); have HXB := Lib.hid (HB0.out.trans (hB2.mono (by simp; omega))); have hz : w.heap.size + 1 < w2.heap.size := (by have := hB2.size; simp at this; omega); clear hB2 hnum)
          | (go_at_call 133; refine (hsm _).mono ?_; rintro e w3 ⟨rfl, hB3⟩; have HX2 := Lib.hid (row_below HX.out hB3 (by omega)); have HXB2 := Lib.hid (HXB.out.trans (hB3.mono (by omega))); clear hB3 hz)
          | refine wpList_store_rowTo rfl 107 (.tmp 6) (.tmp 61) rfl rfl w.heap.size #[.int .i64 4, .string ⟨(smallOf N m).toArray⟩] rfl rfl 107 #[.int .i64 0, .string ⟨#[]⟩] HX2.out info56 rfl (by simp [Value.oneCell']) ?_)
        go_wp2
        exact bodyPost_ret (v := .agg #[.int .i64 4, .string ⟨(smallOf N m).toArray⟩]) (results_cell_row rfl _ _ w.heap.size 107 _ (0, 0) _ rfl (setRow_at HX2.out) Tryz.underlying107 rfl info56) rfl ⟨rfl, below_setRow HXB2.out (Nat.le_refl _) _⟩
end Go.Proofs.YtoffjpgobhcipaaGreatDoor
