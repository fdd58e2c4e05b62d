/-
  Layer 4: contracts of sort.Search over the closure of lines.At, of lines.At and of the document's At.
-/
import Derived.Test.YthbjiecckehckabE
import Derived.Laws.ResultCell
import Derived.StillTailTactics
import Derived.Laws.CopyOwn
namespace Go.Proofs.Ythbjiecckehckab
open Go.ChangeShapes Go.WideShapes Go.ChangeAt Go.RowKit

set_option maxHeartbeats 2000000 in
/-- the closure: is the beginning number i behind the place? -/
theorem behind_any (bs bo g cap m : Nat) (off x i : Int) (hi0 : 0 ≤ i) (hi : i < m) (w : World) (c1 : w.cell? ⟨bs, 0, none⟩ = some (.slice (some ⟨g, 0, none⟩) m cap)) (c2 : w.cell? ⟨bo, 0, none⟩ = some (.int .i64 off)) (c3 : w.cell? ⟨g, i.toNat, none⟩ = some (.int .i64 x)) :
    Calls Try.prog 23 #[.int .i64 i, .pointer (some ⟨bs, 0, none⟩), .pointer (some ⟨bo, 0, none⟩)] w fun e w' => e = .returned (.bool (decide (off < x))) ∧ Below w.heap.size w w' := by
  obtain ⟨k, rfl⟩ : ∃ k : Nat, i = k := ⟨i.toNat, by omega⟩
  rw [Int.toNat_natCast] at c3
  go_enter Try.func23, Try.ntmps23
  go_wp2
  go_quiet (fail)
  go_wp2
  go_ret
  exact ⟨by rfl, below_drewN (Below.refl _ _) _⟩

set_option maxHeartbeats 4000000 in
theorem search_any (m r : Nat) (bs bo : Nat) (w : World) (hm : m ≤ 1048577) (hr : r ≤ m)
    (hf : ∀ (W : World) (i : Nat), Below w.heap.size w W → i < m → Calls Try.prog 23 #[.int .i64 i, .pointer (some ⟨bs, 0, none⟩), .pointer (some ⟨bo, 0, none⟩)] W fun e w' => e = .returned (.bool (decide (r ≤ i))) ∧ Below W.heap.size W w') :
    Calls Try.prog 24 #[.int .i64 m, .func (.func 23) #[] #[.pointer (some ⟨bs, 0, none⟩), .pointer (some ⟨bo, 0, none⟩)]] w fun e w' => e = .returned (.int .i64 r) ∧ Below w.heap.size w w' := by
  have HF := Lib.hid hf
  clear hf
  go_enter Try.func24, Try.ntmps24
  go_wp2
  go_loopw [5, 6] (fun s5 s6 wr => ∃ (lo hi : Nat), s5 = .int .i64 lo ∧ s6 = .int .i64 hi ∧ lo ≤ r ∧ r ≤ hi ∧ hi ≤ m ∧ Below w.heap.size w wr) (fun s5 s6 _ => (intOf s6).toNat - (intOf s5).toNat)
  case atStart => exact ⟨0, m, rfl, rfl, Nat.zero_le _, hr, Nat.le_refl _, Below.refl _ _⟩
  case round =>
    obtain ⟨lo, hi, rfl, rfl, h1, h2, h3, hB⟩ := hrel
    by_cases hlt : lo < hi
    · have hc := HF.out wr ((lo + hi) / 2) hB (by omega)
      rw [show (((lo + hi) / 2 : Nat) : Int) = ((lo : Int) + (hi : Int)) / 2 by omega] at hc
      by_cases hp : r ≤ (lo + hi) / 2
      · rw [decide_eq_true hp] at hc
        go_wp2_with (go_at_call 23; refine hc.mono ?_; rintro e w' ⟨rfl, hB2⟩)
        go_roundw
        case rel => exact ⟨lo, (lo + hi) / 2, rfl, by go_num, h1, hp, by omega, hB.trans (hB2.mono hB.size)⟩
        case measure => simp [intOf]; omega
      · rw [decide_eq_false hp] at hc
        go_wp2_with (go_at_call 23; refine hc.mono ?_; rintro e w' ⟨rfl, hB2⟩)
        go_roundw
        case rel => exact ⟨(lo + hi) / 2 + 1, hi, by go_num, rfl, by omega, h2, h3, hB.trans (hB2.mono hB.size)⟩
        case measure => simp [intOf]; omega
    · obtain rfl : lo = r := by omega
      go_wp2
      go_ret
      exact ⟨rfl, hB⟩

theorem behind_all (w1 : World) (bo k g cap r : Nat) (L : List Nat)
    (hup : ∀ (i x : Nat), L[i]? = some x → (decide ((k : Int) < (x : Int)) = decide (r ≤ i))) (hbo : w1.cell? ⟨bo, 0, none⟩ = some (.int .i64 k))
    (hv : ∀ (i x : Nat), L[i]? = some x → w1.cell? ⟨g, i, none⟩ = some (.int .i64 x)) (W : World) (i : Nat)
    (hB : Below (w1.alloc (.cells #[.slice (some ⟨g, 0, none⟩) L.length cap] 22)).heap.size (w1.alloc (.cells #[.slice (some ⟨g, 0, none⟩) L.length cap] 22)) W) (hi : i < L.length) :
    Calls Try.prog 23 #[.int .i64 i, .pointer (some ⟨w1.heap.size, 0, none⟩), .pointer (some ⟨bo, 0, none⟩)] W fun e w' => e = .returned (.bool (decide (r ≤ i))) ∧ Below W.heap.size W w' := by
  obtain ⟨x, hx⟩ : ∃ x, L[i]? = some x := ⟨L[i], List.getElem?_eq_getElem hi⟩
  have hB1 : Below w1.heap.size w1 (w1.alloc (.cells #[.slice (some ⟨g, 0, none⟩) L.length cap] 22)) := (Below.refl _ _).alloc (Nat.le_refl _) _
  have hsz : (w1.alloc (.cells #[.slice (some ⟨g, 0, none⟩) L.length cap] 22)).heap.size = w1.heap.size + 1 := by simp
  have c1 : W.cell? ⟨w1.heap.size, 0, none⟩ = some (.slice (some ⟨g, 0, none⟩) L.length cap) := by
    rw [hB.cell (p := ⟨w1.heap.size, 0, none⟩) (by rw [hsz]; exact Nat.lt_succ_self _), World.cell?_alloc_at (hn := by simp)]; rfl
  have c2 : W.cell? ⟨bo, 0, none⟩ = some (.int .i64 k) := by
    rw [hB.cell (p := ⟨bo, 0, none⟩) (by have := cell_lt hbo; rw [hsz]; exact Nat.lt_succ_of_lt this), hB1.cell (p := ⟨bo, 0, none⟩) (cell_lt hbo)]; exact hbo
  have c3 : W.cell? ⟨g, i, none⟩ = some (.int .i64 x) := by
    have h := hv i x hx
    rw [hB.cell (p := ⟨g, i, none⟩) (by have := cell_lt h; rw [hsz]; exact Nat.lt_succ_of_lt this), hB1.cell (p := ⟨g, i, none⟩) (cell_lt h)]; exact h
  rw [← hup i x hx]
  exact behind_any w1.heap.size bo g cap L.length k x i (by omega) (by omega) W c1 c2 (by simpa using c3)

theorem info33 : (Try.prog.info? 33).map (·.size) = some 2 := by kernel_rfl
/-- the line and the column of a place, and the error -/
def atLine (s : ByteArray) (off : Int) : Int := if 0 ≤ off ∧ off ≤ s.size then (stK s.data.toList off.toNat).length else 0
def atCol (s : ByteArray) (off : Int) : Int := if 0 ≤ off ∧ off ≤ s.size then off - lst s.data.toList off.toNat + 1 else 0
def atErr (s : ByteArray) (off : Int) : Int := if 0 ≤ off ∧ off ≤ s.size then 0 else 1

set_option maxHeartbeats 4000000 in
theorem at_any (s : ByteArray) (hs : s.size ≤ 1048576) (off : Int) (w : World) :
    Calls Try.prog 17 #[.string s, .int .i64 off] w fun e w' => e = .returned (.tuple #[.agg #[.int .i64 (atLine s off), .int .i64 (atCol s off)], .int .i64 (atErr s off)]) ∧ Below w.heap.size w w' := by
  have hsl := starts_len s
  by_cases hc : 0 ≤ off ∧ off ≤ s.size
  · obtain ⟨k, rfl⟩ : ∃ k : Nat, off = (k : Int) := ⟨off.toNat, by omega⟩
    have ht : atLine s k = (stK s.data.toList k).length := by unfold atLine; rw [if_pos hc, Int.toNat_natCast]
    have hr : atCol s k = k - lst s.data.toList k + 1 := by unfold atCol; rw [if_pos hc, Int.toNat_natCast]
    have he : atErr s k = 0 := by unfold atErr; rw [if_pos hc]
    rw [ht, hr, he]
    clear ht hr he
    have hk : k ≤ s.size := by omega
    have hle := lst_le s.data.toList k
    have hrp := stK_pos s.data.toList k
    have hrm : (stK s.data.toList k).length ≤ (starts s).length := by
      obtain ⟨M, h1, _⟩ := stK_more s.data.toList k (s.size - k)
      rw [show k + (s.size - k) = s.size by omega] at h1
      unfold starts; rw [h1]; simp
    have hlast : (starts s)[(stK s.data.toList k).length - 1]? = some (lst s.data.toList k) := by
      unfold starts
      rw [stK_at _ s.size k _ hk (by omega)]; exact stK_last _ _
    have hup : ∀ (i x : Nat), (starts s)[i]? = some x → (decide ((k : Int) < (x : Int)) = decide ((stK s.data.toList k).length ≤ i)) := by
      intro i x hx
      have := stK_upto _ s.size k i x hk hx
      rw [decide_eq_decide]; omega
    generalize stK s.data.toList k = R at hrp hrm hlast hup ⊢
    generalize lst s.data.toList k = x at hle hlast ⊢
    obtain ⟨r, hr⟩ : ∃ r, R.length = r + 1 := ⟨R.length - 1, by omega⟩
    rw [hr] at hrp hrm hlast hup ⊢
    rw [Nat.add_sub_cancel] at hlast
    have HU := Lib.hid hup
    have HL := Lib.hid hlast
    clear hup hlast hr hrp
    go_enter Try.func17, Try.ntmps17
    go_wp2_with (first
      | (go_at_call 10; refine (starts_any s hs _).mono ?_; rintro e w1 ⟨⟨v, rfl, hv⟩, hB⟩; obtain ⟨g, cap, rfl, h1, h2, h3, h4⟩ := hv; clear h1 h2)
      | (go_at_call 24; refine (search_any (starts s).length (r + 1) w1.heap.size w.heap.size _ (by omega) hrm (behind_all w1 w.heap.size k g cap (r + 1) (starts s) HU.out (by
          rw [hB.cell (p := ⟨w.heap.size, 0, none⟩) (by simp <;> omega)]; simp) h4)).mono ?_; rintro e w2 ⟨rfl, hB2⟩))
    have hw0 : Below w.heap.size w ((w.alloc (.cells #[.int .i64 k] 3)).alloc (.cells #[.int .i64 0, .int .i64 0] 33)) := ((Below.refl _ _).alloc (Nat.le_refl _) _).alloc (by simp) _
    have hs0 : ((w.alloc (.cells #[.int .i64 k] 3)).alloc (.cells #[.int .i64 0, .int .i64 0] 33)).heap.size = w.heap.size + 1 + 1 := by simp
    have hs1 : (w1.alloc (.cells #[.slice (some ⟨g, 0, none⟩) (starts s).length cap] 22)).heap.size = w1.heap.size + 1 := by simp
    have hwb : Below w1.heap.size w1 (w1.alloc (.cells #[.slice (some ⟨g, 0, none⟩) (starts s).length cap] 22)) := (Below.refl _ _).alloc (Nat.le_refl _) _
    have hB12 : Below w1.heap.size w1 w2 := hwb.trans (hB2.mono (by rw [hs1]; omega))
    have hbig := hB.size
    rw [hs0] at hbig
    have d1 : w2.cell? ⟨w.heap.size, 0, none⟩ = some (.int .i64 k) := by
      rw [hB12.cell (p := ⟨w.heap.size, 0, none⟩) (by show w.heap.size < _; omega), hB.cell (p := ⟨w.heap.size, 0, none⟩) (by rw [hs0]; show w.heap.size < _; omega)]; simp
    have d2 : w2.cell? ⟨w1.heap.size, 0, none⟩ = some (.slice (some ⟨g, 0, none⟩) (starts s).length cap) := by
      rw [hB2.cell (p := ⟨w1.heap.size, 0, none⟩) (by rw [hs1]; exact Nat.lt_succ_self _), World.cell?_alloc_at (hn := by simp)]; rfl
    have d3 : w2.cell? ⟨g, r, none⟩ = some (.int .i64 x) := by
      rw [hB12.cell (p := ⟨g, r, none⟩) h3]; exact h4 r x HL.out
    have d4 : w2.heap[w.heap.size + 1]? = some (.cells #[.int .i64 0, .int .i64 0] 33) := by
      rw [hB12.block _ (by omega), hB.block _ (by rw [hs0]; omega)]
      show ((w.alloc _).heap.push _)[w.heap.size + 1]? = _
      rw [Array.getElem?_push, if_pos (by simp)]
    have hBw : Below w.heap.size w w2 := hw0.trans ((hB.mono (by rw [hs0]; omega)).trans (hB12.mono (by omega)))
    have i1 : (r : Int) + 1 - 1 = r := by omega
    have i2 : (r : Int) < ((starts s).length : Int) := by omega
    have HBW := Lib.hid hBw
    clear hB hB2 hwb hB12 hs0 hs1 hw0 hBw h4 HU HL h3
    generalize hm : (starts s).length = m at hrm hsl d2 i2
    clear hm
    have wr : IntKind.i64.wrap (r : Int) = r := by rw [IntKind.wrap_i64]; omega
    have wk : IntKind.i64.wrap ((k : Int) - (x : Int)) = (k : Int) - x := by rw [IntKind.wrap_i64]; omega
    have wk2 : IntKind.i64.wrap ((k : Int) - (x : Int) + 1) = (k : Int) - x + 1 := by rw [IntKind.wrap_i64]; omega
    go_still_tail 10, (by kernel_rfl)
    change wpList _ _ _ _ _ w2.drew
    refine wpList_store_rowTo rfl 33 (.tmp 4) (.tmp 34) rfl rfl (w.heap.size + 1) #[.int .i64 ((r : Int) + 1), .int .i64 ((k : Int) - x + 1)] rfl rfl 33 #[.int .i64 0, .int .i64 0] d4 info33 rfl (by simp [Value.oneCell']) ?_
    have hB3 : Below w.heap.size w (w2.drew.setRow (w.heap.size + 1) #[.int .i64 ((r : Int) + 1), .int .i64 ((k : Int) - x + 1)]) := below_setRow HBW.out.drew (by omega) _
    have e0 : (w2.drew.setRow (w.heap.size + 1) #[.int .i64 ((r : Int) + 1), .int .i64 ((k : Int) - x + 1)]).cell? ⟨w.heap.size + 1, 0, none⟩ = some (.int .i64 ((r : Int) + 1)) := cell_setRow_same w2.drew _ _ _ _ _ _ d4
    have e1 : (w2.drew.setRow (w.heap.size + 1) #[.int .i64 ((r : Int) + 1), .int .i64 ((k : Int) - x + 1)]).cell? ⟨w.heap.size + 1, 1, none⟩ = some (.int .i64 ((k : Int) - x + 1)) := cell_setRow_same w2.drew _ _ _ _ _ _ d4
    have HB3 := Lib.hid hB3
    clear hB3
    generalize w2.drew.setRow (w.heap.size + 1) #[.int .i64 ((r : Int) + 1), .int .i64 ((k : Int) - x + 1)] = w3 at HB3 e0 e1 ⊢
    clear d1 d2 d3 d4 HBW
    go_wp2
    (try simp only [Exit.inBlock, Exit.then])
    refine bodyPost_ret (v := .tuple #[.agg #[.int .i64 ((r : Int) + 1), .int .i64 ((k : Int) - x + 1)], .int .i64 0]) (by rw [results_cell_tmp rfl]; go_simp) rfl ⟨by simp, HB3.out⟩
  · have ht : atLine s off = 0 := by unfold atLine; rw [if_neg hc]
    have hr : atCol s off = 0 := by unfold atCol; rw [if_neg hc]
    have he : atErr s off = 1 := by unfold atErr; rw [if_neg hc]
    rw [ht, hr, he]
    clear ht hr he
    by_cases h1 : off < 0
    · go_enter Try.func17, Try.ntmps17
      go_wp2
      (try simp only [Exit.inBlock, Exit.then])
      refine bodyPost_ret (v := .tuple #[.agg #[.int .i64 0, .int .i64 0], .int .i64 1]) (by rw [results_cell_tmp rfl]; go_simp) rfl ⟨rfl, ?_⟩
      exact ((Below.refl _ _).alloc (Nat.le_refl _) _).alloc (by simp) _
    · have h2 : (s.size : Int) < off := by omega
      go_enter Try.func17, Try.ntmps17
      go_wp2
      (try simp only [Exit.inBlock, Exit.then])
      refine bodyPost_ret (v := .tuple #[.agg #[.int .i64 0, .int .i64 0], .int .i64 1]) (by rw [results_cell_tmp rfl]; go_simp) rfl ⟨rfl, ?_⟩
      exact ((Below.refl _ _).alloc (Nat.le_refl _) _).alloc (by simp) _
end Go.Proofs.Ythbjiecckehckab
