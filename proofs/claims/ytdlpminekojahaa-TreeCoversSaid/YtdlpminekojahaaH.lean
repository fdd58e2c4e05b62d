/-
  Layer 10: contracts of tree.End, Kids, Up, Over.
-/
import Derived.Test.YtdlpminekojahaaG
namespace Go.Proofs.Ytdlpminekojahaa
open Go.ChangeShapes Go.WideShapes Go.ChangeAt Go.RowKit

theorem mineI_mono {w : World} {b b' : Nat} {v : Value} {xs : List Int} (h : MineI w b v xs) (hb : b' ≤ b) : MineI w b' v xs :=
  ⟨h.1, h.2.imp id fun ⟨g, cap, cur, h1, h2, h3⟩ => ⟨g, cap, cur, h1, Nat.le_trans hb h2, h3⟩⟩
def endI (l : List Nd) (i : Int) : Int := if hasN l i = true then endN (kidsL l) i.toNat else -1
def upI (l : List Nd) (i : Int) : Int := if hasN l i = true then upN (kidsL l) i.toNat else -1
def kidsI (l : List Nd) (i : Int) : List Int := if hasN l i = true then natsI (kidsN (kidsL l) i.toNat) else []
def overI (l : List Nd) (t : Int) : Int := if treeB 131072 l = true then overN l t else -1
set_option maxHeartbeats 4000000 in
theorem End_any (w : World) (a : Option Addr) (n cap : Nat) (l : List Nd) (hl : Nodes w a n l) (hn : n ≤ 1099511627775) (hK : KidsFit l) (i : Int) :
    Calls Try.prog 11 #[.slice a n cap, .int .i64 i] w fun e w' => e = .returned (.int .i64 (endI l i)) ∧ Below w.heap.size w w' := by
  have hh := has_any w a n cap l hl hn hK i
  cases hq : hasN l i with
  | true =>
    rw [hq] at hh
    obtain ⟨k, rfl, hk, ht⟩ := has_true hq
    have hE : endI l (k : Int) = endN (kidsL l) k := by rw [endI, if_pos hq, Int.toNat_natCast]
    rw [hE]
    have hln := hl.1
    have hte := fun w hl => tend_any w a n cap l hl hn (tree_well ht) k (by omega)
    have HL := Lib.hid hl
    clear hl hq hE hln ht hk
    go_enter Try.func11, Try.ntmps11
    go_wp2_with (first
      | (go_at_call 26; refine hh.mono ?_; rintro e w1 ⟨rfl, hB⟩)
      | (go_at_call 27; refine (hte _ (nodes_below HL.out hB)).mono ?_; rintro e w2 ⟨rfl, rfl⟩))
    go_ret
    exact ⟨rfl, hB⟩
  | false =>
    rw [hq] at hh
    have hE : endI l i = -1 := by rw [endI, if_neg (by rw [hq]; decide)]
    rw [hE]
    clear hl hq hE
    go_enter Try.func11, Try.ntmps11
    go_wp2_with (go_at_call 26; refine hh.mono ?_; rintro e w1 ⟨rfl, hB⟩)
    go_ret
    exact ⟨rfl, hB⟩
set_option maxHeartbeats 4000000 in
theorem Kids_any (w : World) (a : Option Addr) (n cap : Nat) (l : List Nd) (hl : Nodes w a n l) (hn : n ≤ 1099511627775) (hK : KidsFit l) (i : Int) :
    Calls Try.prog 15 #[.slice a n cap, .int .i64 i] w fun e w' => (∃ v, e = .returned v ∧ MineI w' w.heap.size v (kidsI l i)) ∧ Below w.heap.size w w' := by
  have hh := has_any w a n cap l hl hn hK i
  cases hq : hasN l i with
  | true =>
    rw [hq] at hh
    obtain ⟨k, rfl, hk, ht⟩ := has_true hq
    have hE : kidsI l (k : Int) = natsI (kidsN (kidsL l) k) := by rw [kidsI, if_pos hq, Int.toNat_natCast]
    rw [hE]
    have hln := hl.1
    have hte := fun w hl => tkids_any w a n cap l hl hn (tree_well ht) k (by omega)
    have HL := Lib.hid hl
    clear hl hq hE hln ht hk
    go_enter Try.func15, Try.ntmps15
    go_wp2_with (first
      | (go_at_call 26; refine hh.mono ?_; rintro e w1 ⟨rfl, hB⟩)
      | (go_at_call 30; refine (hte _ (nodes_below HL.out hB)).mono ?_; rintro e w2 ⟨⟨v, rfl, hM⟩, hB2⟩))
    go_ret
    exact ⟨⟨v, rfl, mineI_mono hM hB.size⟩, below_chain hB hB2⟩
  | false =>
    rw [hq] at hh
    have hE : kidsI l i = [] := by rw [kidsI, if_neg (by rw [hq]; decide)]
    rw [hE]
    clear hl hq hE
    go_enter Try.func15, Try.ntmps15
    go_wp2_with (go_at_call 26; refine hh.mono ?_; rintro e w1 ⟨rfl, hB⟩)
    go_ret
    exact ⟨⟨_, rfl, mineI_nil _ _⟩, hB⟩
theorem up_yes {K : List Int} {i j : Nat} (h : i < endN K j) : upFrom K i (j + 1) = j := by unfold upFrom; rw [if_pos h]
theorem up_not {K : List Int} {i j : Nat} (h : endN K j ≤ i) : upFrom K i (j + 1) = upFrom K i j := by
  conv => lhs; unfold upFrom
  rw [if_neg (by omega)]
set_option maxHeartbeats 4000000 in
theorem Up_any (w : World) (a : Option Addr) (n cap : Nat) (l : List Nd) (hl : Nodes w a n l) (hn : n ≤ 1099511627775) (hK : KidsFit l) (i : Int) :
    Calls Try.prog 12 #[.slice a n cap, .int .i64 i] w fun e w' => e = .returned (.int .i64 (upI l i)) ∧ Below w.heap.size w w' := by
  have hh := has_any w a n cap l hl hn hK i
  cases hq : hasN l i with
  | true =>
    rw [hq] at hh
    obtain ⟨k, rfl, hk, ht⟩ := has_true hq
    have hE : upI l (k : Int) = upFrom (kidsL l) k k := by rw [upI, if_pos hq, Int.toNat_natCast]; rfl
    rw [hE]
    have hln := hl.1
    have hW := tree_well ht
    have HL := Lib.hid hl
    have HN := Lib.hid hln
    have hkn : k < n := by omega
    clear hl hq hE hln ht hk
    go_enter Try.func12, Try.ntmps12
    go_wp2_with (go_at_call 26; refine hh.mono ?_; rintro e w1 ⟨rfl, hB⟩)
    have HL1 := Lib.hid (nodes_below HL.out hB)
    clear HL hh
    go_loop [5, 6] (fun t v => ∃ (j m : Nat), j ≤ k ∧ v = .int .i64 ((j : Int) - 1) ∧ t = .int .i64 m ∧ m ≤ k ∧ Hid (Goes (kidsL l) j m k) ∧ Hid (upFrom (kidsL l) k k = upFrom (kidsL l) k j)) (fun _ v => (intOf v + 1).toNat)
    case atStart => exact ⟨k, 0, Nat.le_refl _, rfl, rfl, Nat.zero_le _, Lib.hid (goes_zero _ _), Lib.hid rfl⟩
    case round =>
      obtain ⟨j, m, hj, rfl, rfl, hm, HG, HU⟩ := hrel
      cases j with
      | zero =>
        go_wp2
        go_ret
        exact ⟨ret_int (by rw [HU.out]; rfl), hB⟩
      | succ j =>
        have e1 : ((j + 1 : Nat) : Int) - 1 = (j : Int) := by omega
        rw [e1]
        clear e1
        have hjn : j < n := by omega
        have hx := nodes_some HL1.out hjn
        obtain ⟨g, off, rfl, c0, c1, c2, c3, c4⟩ := HL1.out.2 j _ hx
        have hkx := kidsL_at l j _ hx
        have hst := up_step hW (by rw [kidsL_len, HN.out]; exact hkn) hkx HG.out
        have hgg := goes_sub (well_goes.1 hW) (Nat.zero_le j) (by rw [kidsL_len, HN.out]; exact hjn)
        obtain ⟨_, hg1, _, _⟩ := hgg
        obtain ⟨y, hy, h0, _⟩ := (goes_succ (n := 0)).1 hg1
        rw [hkx] at hy
        injection hy with hy
        generalize (l.getD j nd0).kids = z at c1 hst hy
        obtain ⟨q, rfl⟩ : ∃ q : Nat, z = q := ⟨z.toNat, by omega⟩
        rw [Int.toNat_natCast] at hst
        have HS := Lib.hid hst
        clear hx hkx hst hg1 hy h0 c0 c2 c3 c4
        by_cases hc : m < q
        · go_wp2
          go_ret
          exact ⟨ret_int (by rw [HU.out, up_yes (HS.out.1 hc)]), hB⟩
        · have hr := HS.out.2 (by omega)
          have HR := Lib.hid hr
          have hle := goes_le hr.1
          have hmm : m + 1 - q ≤ k := by omega
          clear hr hle
          go_wp2
          go_round
          case rel => exact ⟨j, m + 1 - q, by omega, by first | rfl | go_num, by first | go_num | (congr 1; omega), hmm, Lib.hid HR.out.1, Lib.hid (by rw [HU.out, up_not HR.out.2])⟩
          case measure => simp [intOf]
  | false =>
    rw [hq] at hh
    have hE : upI l i = -1 := by rw [upI, if_neg (by rw [hq]; decide)]
    rw [hE]
    clear hl hq hE
    go_enter Try.func12, Try.ntmps12
    go_wp2_with (go_at_call 26; refine hh.mono ?_; rintro e w1 ⟨rfl, hB⟩)
    go_ret
    exact ⟨rfl, hB⟩
theorem over_yes {l : List Nd} {t : Int} {j : Nat} (h : hasT t ((l.getD j nd0).lo, (l.getD j nd0).hi) = true) : overFrom l t (j + 1) = j := by
  conv => lhs; unfold overFrom
  rw [if_pos h]
theorem over_not {l : List Nd} {t : Int} {j : Nat} (h : ¬ hasT t ((l.getD j nd0).lo, (l.getD j nd0).hi) = true) : overFrom l t (j + 1) = overFrom l t j := by
  conv => lhs; unfold overFrom
  rw [if_neg h]
set_option maxHeartbeats 4000000 in
theorem Over_any (w : World) (a : Option Addr) (n cap : Nat) (l : List Nd) (hl : Nodes w a n l) (hn : n ≤ 1099511627775) (hK : KidsFit l) (t : Int) :
    Calls Try.prog 13 #[.slice a n cap, .int .i64 t] w fun e w' => e = .returned (.int .i64 (overI l t)) ∧ Below w.heap.size w w' := by
  have hh := isTree_any 131072 w a n cap l hl hn hK
  cases hq : treeB 131072 l with
  | true =>
    rw [hq] at hh
    have hE : overI l t = overFrom l t n := by rw [overI, if_pos hq, overN, hl.1]
    rw [hE]
    have HL := Lib.hid hl
    clear hl hq hE
    go_enter Try.func13, Try.ntmps13
    go_wp2_with (go_at_call 25; refine hh.mono ?_; rintro e w1 ⟨rfl, hB⟩)
    have HL1 := Lib.hid (nodes_below HL.out hB)
    clear HL hh
    go_loop [5] (fun v => ∃ (j : Nat), j ≤ n ∧ v = .int .i64 ((j : Int) - 1) ∧ Hid (overFrom l t n = overFrom l t j)) (fun v => (intOf v + 1).toNat)
    case atStart => exact ⟨n, Nat.le_refl _, rfl, Lib.hid rfl⟩
    case round =>
      obtain ⟨j, hj, rfl, HU⟩ := hrel
      cases j with
      | zero =>
        go_wp2
        go_ret
        exact ⟨ret_int (by rw [HU.out]; rfl), hB⟩
      | succ j =>
        have e1 : ((j + 1 : Nat) : Int) - 1 = (j : Int) := by omega
        rw [e1]
        clear e1
        have hx := nodes_some HL1.out hj
        obtain ⟨g, off, rfl, c0, c1, c2, c3, c4⟩ := HL1.out.2 j _ hx
        have hz : (hasT t ((l.getD j nd0).lo, (l.getD j nd0).hi) = true) ↔ ((l.getD j nd0).lo ≤ t ∧ t < (l.getD j nd0).hi) := by simp [hasT]
        have HY : Hid (((l.getD j nd0).lo ≤ t ∧ t < (l.getD j nd0).hi → overFrom l t (j + 1) = j) ∧ (¬ ((l.getD j nd0).lo ≤ t ∧ t < (l.getD j nd0).hi) → overFrom l t (j + 1) = overFrom l t j)) :=
          Lib.hid ⟨fun h => over_yes (hz.2 h), fun h => over_not (fun e => h (hz.1 e))⟩
        generalize l.getD j nd0 = z at c3 c4 HY
        clear hx hz c0 c1 c2
        by_cases h1 : z.lo ≤ t
        · by_cases h2 : t < z.hi
          · have HZ := Lib.hid (HY.out.1 ⟨h1, h2⟩)
            go_wp2
            go_ret
            exact ⟨ret_int (by rw [HU.out, HZ.out]), hB⟩
          · have HZ := Lib.hid (HY.out.2 (fun e => h2 e.2))
            go_wp2
            go_round
            case rel => exact ⟨j, by omega, by first | rfl | go_num, Lib.hid (by rw [HU.out, HZ.out])⟩
            case measure => simp [intOf]
        · have HZ := Lib.hid (HY.out.2 (fun e => h1 e.1))
          go_wp2
          go_round
          case rel => exact ⟨j, by omega, by first | rfl | go_num, Lib.hid (by rw [HU.out, HZ.out])⟩
          case measure => simp [intOf]
  | false =>
    rw [hq] at hh
    have hE : overI l t = -1 := by rw [overI, if_neg (by rw [hq]; decide)]
    rw [hE]
    clear hl hq hE
    go_enter Try.func13, Try.ntmps13
    go_wp2_with (go_at_call 25; refine hh.mono ?_; rintro e w1 ⟨rfl, hB⟩)
    go_ret
    exact ⟨rfl, hB⟩
end Go.Proofs.Ytdlpminekojahaa
