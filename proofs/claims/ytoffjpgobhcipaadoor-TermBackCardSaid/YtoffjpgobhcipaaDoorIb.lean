/-
  Layer 11: contracts of woods.Trees, woods.End, term.Well, has, up, End, Up.
-/
import Derived.Test.YtoffjpgobhcipaaDoorIa
namespace Go.Proofs.YtoffjpgobhcipaaDoor.Trm
open Go.ChangeShapes Go.WideShapes Go.ChangeAt Go.RowKit

theorem below_drewN {B : Nat} {a w : World} (h : Below B a w) (n : Nat) : Below B a (w.drewN n) := h.trans ⟨rfl, rfl, rfl, Nat.le_refl _, fun _ _ => rfl⟩
theorem trees_part {K : List Int} {i t o : Nat} (h : TrAt K i t o) (hi : i < K.length) : ∃ t' o', (o = 0 → t' = t + 1 ∧ o' = 0) ∧ (o ≠ 0 → t' = t ∧ o = o' + 1) ∧ 1 ≤ t' ∧ t' ≤ i + 1 ∧ i + o' + 1 ≤ K.length ∧
    (∀ r e, Goes K 0 (t' + r) e ↔ Goes K i (o' + 1 + r) e) ∧ (∃ s, s ≤ i ∧ Goes K 0 (t' - 1) s) := by
  by_cases ho : o = 0
  · subst ho
    obtain ⟨a, b, c⟩ := trAt_begin h hi
    obtain ⟨h1, h2, h3, h4, h5⟩ := h
    exact ⟨t + 1, 0, fun _ => ⟨rfl, rfl⟩, fun e => absurd rfl e, by omega, by omega, by omega, fun r e => by rw [b], by simpa using c⟩
  · obtain ⟨h1, h2, h3, h4, h5⟩ := h
    have ht : 1 ≤ t := by
      rcases Nat.eq_zero_or_pos t with rfl | ht
      · exfalso
        have hz := (h2 0 0).1 (goes_zero _ _)
        have hz2 := (goes_le hz).1
        clear h2 h3 h4 hz
        omega
      · exact ht
    exact ⟨t, o - 1, fun e => absurd e ho, fun _ => ⟨rfl, by omega⟩, ht, by omega, by omega, fun r e => by rw [h2, show o - 1 + 1 + r = o + r by omega], h3 ht⟩
set_option maxHeartbeats 8000000 in
theorem trees_any (w : World) (a : Option Addr) (n cap : Nat) (l : List Pt) (hl : Parts w a n l) (hn : n ≤ 4398046511104) :
    Calls Tryd.prog 25 #[.slice a n cap] w fun e w' => e = .returned (.int .i64 (treesZ (kidsP l))) ∧ Below w.heap.size w w' := by
  have HLK : Hid ((kidsP l).length = n) := Lib.hid (by rw [kidsP_len]; exact hl.1)
  have HL := Lib.hid hl
  clear hl
  go_enter Tryd.func25, Tryd.ntmps25
  go_wp2
  go_loopw [3, 4, 5, 6, 7, 10] (fun v u _ _ _ t wr => ∃ i t' o : Nat, i ≤ n ∧ t' ≤ n ∧ o ≤ n ∧ v = .int .i64 t' ∧ u = .int .i64 o ∧ t = .int .i64 i ∧ Hid (TrAt (kidsP l) i t' o) ∧ Hid (Below w.heap.size w wr)) (fun _ _ _ _ _ t _ => n - (intOf t).toNat)
  case atStart => exact ⟨0, 0, 0, Nat.zero_le _, Nat.zero_le _, Nat.zero_le _, rfl, rfl, rfl, Lib.hid (trAt_zero _), Lib.hid (Below.refl _ _)⟩
  case round =>
    obtain ⟨i, t', o, hi, ht', ho, rfl, rfl, rfl, HT, HB⟩ := hrel
    by_cases hlt : i < n
    · have hx := parts_some (parts_below HL.out HB.out) hlt
      obtain ⟨g, off, rfl, c0, c1, c2⟩ := (parts_below HL.out HB.out).2 i _ hx
      have HK := Lib.hid (kidsP_at hx)
      obtain ⟨t2, o2, e1, e2, b1, b2, b3, h2, h3⟩ := trees_part HT.out (by rw [HLK.out]; exact hlt)
      rw [HLK.out] at b3
      have H2 := Lib.hid h2
      have H3 := Lib.hid h3
      generalize l.getD i pt0 = x at c0 c1 c2 HK
      clear hx h2 h3
      have hB2 := Lib.hid (HB.out.alloc HB.out.size (.cells #[.int .u8 x.kind, .int .i64 x.kids, .string x.word] 33))
      by_cases ho0 : o = 0
      all_goals
        first
          | (obtain ⟨rfl, e3⟩ := e1 ho0; subst ho0; have e4 : o2 ≤ 0 := by omega
             clear e1 e2 e3)
          | (obtain ⟨rfl, rfl⟩ := e2 ho0; clear e1 e2; have q0 : ¬ ((o2 + 1 : Nat) : Int) = 0 := by omega)
        by_cases k1 : x.kids < 0
        · have d1 : decide (x.kids < 0) = true := decide_eq_true k1
          have HF := Lib.hid (trAt_fail HK.out (.inl k1) b1 H2.out H3.out)
          clear k1
          go_wp2
          go_ret
          exact ⟨ret_int HF.out.symm, hB2.out⟩
        · have d1 : decide (x.kids < 0) = false := decide_eq_false k1
          obtain ⟨q, hq⟩ : ∃ q : Nat, x.kids = q := ⟨x.kids.toNat, by omega⟩
          have HK2 : Hid ((kidsP l)[i]? = some (q : Int)) := Lib.hid (by rw [← hq]; exact HK.out)
          rw [hq] at d1 c1 hB2
          clear hq k1
          by_cases k2 : (n : Int) - 1 - i < q
          · have d2 : decide ((n : Int) - 1 - i < q) = true := decide_eq_true k2
            have HF := Lib.hid (trAt_fail HK2.out (.inr (by rw [HLK.out]; omega)) b1 H2.out H3.out)
            go_wp2
            go_ret
            exact ⟨ret_int HF.out.symm, hB2.out⟩
          · have d2 : decide ((n : Int) - 1 - i < q) = false := decide_eq_false k2
            by_cases k3 : n - 1 - i < o2 + q
            · have HF := Lib.hid (trAt_fail HK2.out (.inr (by rw [HLK.out]; omega)) b1 H2.out H3.out)
              first
                | (exfalso; omega)
                | (go_wp2
                   go_ret
                   exact ⟨ret_int HF.out.symm, hB2.out⟩)
            · have HN := Lib.hid (trAt_step HK2.out (by omega) (by rw [HLK.out]; omega) b2 H2.out H3.out)
              rw [Int.toNat_natCast] at HN
              go_wp2
              go_roundw
              case rel => exact ⟨i + 1, _, o2 + q, hlt, by omega, by omega, by go_num, by first | go_num | (congr 1; omega), by go_num, HN, hB2⟩
              case measure => simp [intOf]; omega
    · obtain rfl : i = n := by omega
      have HE : Hid (treesZ (kidsP l) = t') := Lib.hid (trAt_end (by rw [HLK.out]; exact HT.out))
      go_wp2
      go_ret
      exact ⟨ret_int HE.out.symm, HB.out⟩
set_option maxHeartbeats 4000000 in
theorem well_any (w : World) (a : Option Addr) (n cap : Nat) (l : List Pt) (hl : Parts w a n l) (hn : n ≤ 4398046511104) :
    Calls Tryd.prog 10 #[.slice a n cap] w fun e w' => e = .returned (.bool (wellB (kidsP l))) ∧ Below w.heap.size w w' := by
  have ht := trees_any w a n cap l hl hn
  rw [← trees_well]
  generalize treesZ (kidsP l) = z at ht
  clear hl
  go_enter Tryd.func10, Tryd.ntmps10
  go_wp2_with (go_at_call 25; refine ht.mono ?_; rintro e w1 ⟨rfl, hB⟩)
  go_ret
  exact ⟨ret_bool (by rw [Bool.eq_iff_iff]; simp), hB⟩
/-- has a tree a part i? -/
def hasP (l : List Pt) (i : Int) : Bool := decide (0 ≤ i) && decide (i < l.length) && wellB (kidsP l)
set_option maxHeartbeats 4000000 in
theorem has_any (w : World) (a : Option Addr) (n cap : Nat) (l : List Pt) (hl : Parts w a n l) (hn : n ≤ 4398046511104) (i : Int) :
    Calls Tryd.prog 29 #[.slice a n cap, .int .i64 i] w fun e w' => e = .returned (.bool (hasP l i)) ∧ Below w.heap.size w w' := by
  have ht := fun w hl => well_any w a n cap l hl hn
  have hln := hl.1
  by_cases h1 : 0 ≤ i
  · by_cases h2 : i < n
    · have hq : hasP l i = wellB (kidsP l) := by
        unfold hasP; rw [decide_eq_true h1, decide_eq_true (by omega)]; simp
      rw [hq]
      generalize wellB (kidsP l) = q at ht ⊢
      have HL := Lib.hid hl
      clear hl hq hln
      go_enter Tryd.func29, Tryd.ntmps29
      go_wp2_with (go_at_call 10; refine (ht _ HL.out).mono ?_; rintro e w1 ⟨rfl, hB⟩)
      go_ret
      exact ⟨by simp, hB⟩
    · have hq : hasP l i = false := by
        unfold hasP; rw [decide_eq_false (p := i < l.length) (by omega)]; simp
      rw [hq]
      clear hl hq hln ht
      go_enter Tryd.func29, Tryd.ntmps29
      go_wp2
      go_ret
      exact ⟨rfl, Below.refl _ _⟩
  · have hq : hasP l i = false := by
      unfold hasP; rw [decide_eq_false (p := 0 ≤ i) h1]; simp
    rw [hq]
    clear hl hq hln ht
    go_enter Tryd.func29, Tryd.ntmps29
    go_wp2
    go_ret
    exact ⟨rfl, Below.refl _ _⟩
theorem has_true {l : List Pt} {i : Int} (h : hasP l i = true) : ∃ k : Nat, i = k ∧ k < l.length ∧ wellB (kidsP l) = true := by
  unfold hasP at h
  simp only [Bool.and_eq_true, decide_eq_true_eq] at h
  exact ⟨i.toNat, by omega, by omega, h.2⟩
set_option maxHeartbeats 4000000 in
/-- woods.End at a tree that ends -/
theorem wend_any (w : World) (a : Option Addr) (n cap : Nat) (l : List Pt) (hl : Parts w a n l) (hn : n ≤ 4398046511104) (i e0 : Nat) (hg : Goes (kidsP l) i 1 e0) :
    Calls Tryd.prog 30 #[.slice a n cap, .int .i64 i] w fun e w' => e = .returned (.int .i64 e0) ∧ w = w' := by
  have HLK : Hid ((kidsP l).length = n) := Lib.hid (by rw [kidsP_len]; exact hl.1)
  have HE := Lib.hid hg
  have he := goes_len hg
  rw [HLK.out] at he
  clear hg
  go_enter Tryd.func30, Tryd.ntmps30
  go_wp2
  go_loop [1, 5] (fun t v => ∃ k m : Nat, k ≤ e0 ∧ t = .int .i64 k ∧ v = .int .i64 m ∧ m ≤ n ∧ Hid (Goes (kidsP l) k m e0)) (fun t _ => e0 - (intOf t).toNat)
  case atStart => exact ⟨i, 1, by have := goes_le HE.out; omega, rfl, rfl, by have := goes_le HE.out; omega, HE⟩
  case round =>
    obtain ⟨k, m, hk, rfl, rfl, hm, HG⟩ := hrel
    cases m with
    | zero =>
      have hz := goes_fun HG.out (goes_zero _ _)
      have HZ := Lib.hid hz
      clear hz
      go_wp2
      go_ret
      exact ⟨ret_int (by rw [HZ.out]), rfl⟩
    | succ m =>
      have hkl := goes_le HG.out
      have hlt : k < n := by omega
      have hx := parts_some hl hlt
      obtain ⟨g, off, rfl, c0, c1, c2⟩ := hl.2 k _ hx
      obtain ⟨y, hy, h0, HG2⟩ := goes_succ.1 HG.out
      rw [kidsP_at hx] at hy
      injection hy with hy
      rw [hy] at c1
      obtain ⟨q, rfl⟩ : ∃ q : Nat, y = q := ⟨y.toNat, by omega⟩
      have hq := goes_le HG2
      rw [Int.toNat_natCast] at hq HG2
      have HH := Lib.hid HG2
      have hqn : q + m ≤ n := by omega
      have hkk : k + 1 ≤ e0 := by omega
      clear hx hl hy HG2 hq hkl c0 c2
      go_wp2
      go_round
      case rel => exact ⟨k + 1, m + q, hkk, by go_num, by first | go_num | (congr 1; omega), by omega, HH⟩
      case measure => simp [intOf]; omega
set_option maxHeartbeats 4000000 in
/-- term.up of a list that is well -/
theorem up_any (w : World) (a : Option Addr) (n cap : Nat) (l : List Pt) (hl : Parts w a n l) (hn : n ≤ 4398046511104) (hW : wellB (kidsP l) = true) (k : Nat) (hkn : k < n) :
    Calls Tryd.prog 28 #[.slice a n cap, .int .i64 k] w fun e w' => e = .returned (.int .i64 (upN (kidsP l) k)) ∧ w = w' := by
  have hE : upN (kidsP l) k = upFrom (kidsP l) k k := rfl
  rw [hE]
  have HL := Lib.hid hl
  have HN := Lib.hid hl.1
  clear hl hE
  go_enter Tryd.func28, Tryd.ntmps28
  go_wp2
  go_loop [5, 6] (fun t v => ∃ (j m : Nat), j ≤ k ∧ v = .int .i64 ((j : Int) - 1) ∧ t = .int .i64 m ∧ m ≤ k ∧ Hid (Goes (kidsP l) j m k) ∧ Hid (upFrom (kidsP l) k k = upFrom (kidsP l) k j)) (fun _ v => (intOf v + 1).toNat)
  case atStart => exact ⟨k, 0, Nat.le_refl _, rfl, rfl, Nat.zero_le _, Lib.hid (goes_zero _ _), Lib.hid rfl⟩
  case round =>
    obtain ⟨j, m, hj, rfl, rfl, hm, HG, HU⟩ := hrel
    cases j with
    | zero =>
      go_wp2
      go_ret
      exact ⟨ret_int (by rw [HU.out]; rfl), rfl⟩
    | succ j =>
      have e1 : ((j + 1 : Nat) : Int) - 1 = (j : Int) := by omega
      rw [e1]
      clear e1
      have hjn : j < n := by omega
      have hx := parts_some HL.out hjn
      obtain ⟨g, off, rfl, c0, c1, c2⟩ := HL.out.2 j _ hx
      have hkx := kidsP_at hx
      have hst := up_step hW (by rw [kidsP_len, HN.out]; exact hkn) hkx HG.out
      have hgg := goes_sub (well_goes.1 hW) (Nat.zero_le j) (by rw [kidsP_len, HN.out]; exact hjn)
      obtain ⟨_, hg1, _, _⟩ := hgg
      obtain ⟨y, hy, h0, _⟩ := (goes_succ (n := 0)).1 hg1
      rw [hkx] at hy
      injection hy with hy
      generalize (l.getD j pt0).kids = z at c1 hst hy
      obtain ⟨q, rfl⟩ : ∃ q : Nat, z = q := ⟨z.toNat, by omega⟩
      rw [Int.toNat_natCast] at hst
      have HS := Lib.hid hst
      clear hx hkx hst hg1 hy h0 c0 c2
      by_cases hc : m < q
      · go_wp2
        go_ret
        exact ⟨ret_int (by rw [HU.out, up_yes (HS.out.1 hc)]), rfl⟩
      · have hr := HS.out.2 (by omega)
        have HR := Lib.hid hr
        have hle := goes_le hr.1
        have hmm : m + 1 - q ≤ k := by omega
        clear hr hle
        go_wp2
        go_round
        case rel => exact ⟨j, m + 1 - q, by omega, by first | rfl | go_num, by first | go_num | (congr 1; omega), hmm, Lib.hid HR.out.1, Lib.hid (by rw [HU.out, up_not HR.out.2])⟩
        case measure => simp [intOf]
def endI (l : List Pt) (i : Int) : Int := if hasP l i = true then endN (kidsP l) i.toNat else -1
def upI (l : List Pt) (i : Int) : Int := if hasP l i = true then upN (kidsP l) i.toNat else -1
end Go.Proofs.YtoffjpgobhcipaaDoor.Trm
