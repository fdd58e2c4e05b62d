/-
  Layer 3: contract of span.Undo.
-/
import Derived.Test.YtigmakdfladjnaaT
import Derived.Deep.AppendLies
import Derived.Deep.RegionLaw
namespace Go.Proofs.Ytigmakdfladjnaa
open Go.ChangeShapes Go.WideShapes Go.ChangeAt Go.RowKit

/-- by how much an edit makes a text longer -/
def gain' (x : Ed) : Int := x.tx.size - (x.hi - x.lo)
/-- by how much edits do -/
def gains : List Ed → Int
  | [] => 0
  | x :: l => gain' x + gains l
/-- what takes an edit back, where the ones ahead made the text longer by m -/
def undo1 (s : ByteArray) (m : Int) (x : Ed) : Ed := ⟨x.lo + m, x.lo + m + x.tx.size, s.extract x.lo.toNat x.hi.toNat⟩
def undos (s : ByteArray) : Int → List Ed → List Ed
  | _, [] => []
  | m, x :: l => undo1 s m x :: undos s (m + gain' x) l
theorem gains_app (a b : List Ed) : gains (a ++ b) = gains a + gains b := by
  induction a with
  | nil => simp [gains]
  | cons x l ih => simp [gains, ih]; omega
theorem undos_app (s : ByteArray) (a b : List Ed) (m : Int) : undos s m (a ++ b) = undos s m a ++ undos s (m + gains a) b := by
  induction a generalizing m with
  | nil => simp [undos, gains]
  | cons x l ih => simp [undos, gains, ih]; congr 1; omega
theorem undos_len (s : ByteArray) : ∀ (l : List Ed) (m : Int), (undos s m l).length = l.length
  | [], _ => rfl
  | x :: l, m => by simp [undos, undos_len s l]
theorem take_more (es : List Ed) (k : Nat) (x : Ed) (h : es[k]? = some x) : es.take (k + 1) = es.take k ++ [x] := by
  obtain ⟨h1, h2⟩ := List.getElem?_eq_some_iff.1 h
  rw [List.take_succ_eq_append_getElem h1, h2]
theorem gains_bounds (n : Int) : ∀ (l : List Ed) (e : Int), stands n e l = true → e ≤ n → - (n - e) ≤ gains l ∧ gains l ≤ puts l
  | [], e, _, he => by simp [gains, puts]; omega
  | x :: l, e, h, he => by
    unfold stands at h
    rw [Bool.and_eq_true, decide_eq_true_iff] at h
    have := gains_bounds n l x.hi h.2 h.1.2.2
    simp only [gains, puts, gain']
    omega
theorem stands_take (n : Int) : ∀ (l : List Ed) (e : Int) (k : Nat), stands n e l = true → stands n e (l.take k) = true
  | [], e, k, _ => by simp [stands]
  | x :: l, e, 0, _ => by simp [stands]
  | x :: l, e, k + 1, h => by
    unfold stands at h
    rw [Bool.and_eq_true] at h
    rw [List.take_succ_cons]
    unfold stands
    rw [Bool.and_eq_true]
    exact ⟨h.1, stands_take n l x.hi k h.2⟩
theorem puts_take : ∀ (l : List Ed) (k : Nat), puts (l.take k) ≤ puts l
  | [], k => by simp [puts]
  | x :: l, 0 => by simp [puts]
  | x :: l, k + 1 => by have := puts_take l k; simp [puts]; omega
theorem puts_mem : ∀ (l : List Ed) (x : Ed), x ∈ l → x.tx.size ≤ puts l
  | [], x, h => by cases h
  | y :: l, x, h => by
    rcases List.mem_cons.1 h with rfl | h
    · simp [puts]
    · have := puts_mem l x h; simp [puts]; omega

set_option maxHeartbeats 2000000 in
theorem undo_ok (s : ByteArray) (w : World) (a : Option Addr) (n cap : Nat) (es : List Ed) (he : Edits w a n es) (hn : n ≤ 4398046511103) (hp : puts es ≤ 65536) (hs : s.size ≤ 65536) (hst : stands s.size 0 es = true)
    (hap : ∀ w, Edits w a n es → Calls Try.prog 14 #[.string s, .slice a n cap] w fun e w' => (∃ t, e = .returned (.tuple #[.string t, .int .i64 0])) ∧ Below w.heap.size w w') :
    Calls Try.prog 18 #[.string s, .slice a n cap] w fun e w' => (∃ v, e = .returned (.tuple #[v, .int .i64 0]) ∧ Mine w' w.heap.size v (undos s 0 es)) ∧ Below w.heap.size w w' := by
  have HAP := Lib.hid hap
  have hlen := he.1
  have HG := Lib.hid (And.intro (good_of (Int.le_refl 0) hst) (And.intro hst hp))
  clear hap hst hp
  obtain ⟨i0, hi, hz0, hz1, hz2⟩ := info_parts info36z
  go_enter Try.func18, Try.ntmps18
  go_wp2_with (first
    | (go_at_call 14; refine (HAP.out _ he).mono ?_; rintro e w1 ⟨⟨t, rfl⟩, hB⟩))
  go_loopw [8, 9, 24] (fun v m i wr => ∃ (k : Nat) (z : Int), k ≤ n ∧ i = .int .i64 k ∧ m = .int .i64 z ∧ z = gains (es.take k) ∧ Mine wr w.heap.size v (undos s 0 (es.take k)) ∧ Below w.heap.size w wr) (fun _ _ i _ => n - (intOf i).toNat)
  case atStart => exact ⟨0, 0, Nat.zero_le _, rfl, rfl, rfl, mine_nil _ _, hB⟩
  case round =>
    clear hB
    obtain ⟨k, z, hk, rfl, rfl, hz, hM, hB⟩ := hrel
    by_cases hlt : k < n
    · obtain ⟨x, hxk⟩ : ∃ x, es[k]? = some x := ⟨es[k]'(by omega), List.getElem?_eq_getElem (by omega)⟩
      have hmem := List.mem_of_getElem? hxk
      obtain ⟨g1, g2, g3⟩ := HG.out.1 x hmem
      have htx := puts_mem es x hmem
      have htk := take_more es k x hxk
      have hst1 := undos_app s (es.take k) [x] 0
      rw [← htk, Int.zero_add, ← hz] at hst1
      have hg1 := gains_app (es.take k) [x]
      rw [← htk, ← hz] at hg1
      have hzb := gains_bounds s.size (es.take k) 0 (stands_take _ _ _ _ HG.out.2.1) (by omega)
      have hpt := puts_take es k
      have hpl := HG.out.2.2
      have hgb := grown_any x
      have hgx : gain x = gain' x := by unfold gain gain' wrap64; omega
      rw [hgx] at hgb
      obtain ⟨g, off, rfl, c0, c1, c2⟩ := (edits_below he hB).2 k x hxk
      have hl1 : (undos s 0 (es.take k)).length ≤ n := by rw [undos_len]; simp; omega
      have hy : undos s z [x] = [undo1 s z x] := rfl
      have hgs : gains [x] = gain' x := by simp [gains]
      rw [hy] at hst1
      rw [hgs] at hg1
      clear hy hgs hgx
      rw [← hz] at hzb
      generalize undos s 0 (es.take k) = L at hM hst1 hl1
      obtain ⟨lo, hi', tx⟩ := x
      dsimp only [undo1] at c0 c1 c2 hgb hst1 hg1 g1 g2 g3 htx
      have hsl : ∀ w : World, (Instr.slice 9 (.string s) (some (.int .i64 lo)) (some (.int .i64 hi')) none).run Try.prog w = .ok (.string (s.extract lo.toNat hi'.toNat)) w := fun w => by
        have := slice_str s lo.toNat hi'.toNat (by omega) (by omega) w
        rwa [show ((lo.toNat : Nat) : Int) = lo by omega, show ((hi'.toNat : Nat) : Int) = hi' by omega] at this
      have hgy : gain' ⟨lo, hi', tx⟩ = (tx.size : Int) - (hi' - lo) := rfl
      rw [hgy] at hg1 hgb
      generalize s.extract lo.toNat hi'.toNat = u at hst1 hsl
      have HST := Lib.hid (And.intro hst1 hg1)
      have HGB := Lib.hid hgb
      have wa : IntKind.i64.wrap (lo + z + (tx.size : Int)) = lo + z + (tx.size : Int) := by rw [IntKind.wrap_i64]; omega
      clear hst1 hg1 hgb hmem htk hxk hz hgy
      go_wp2
      have hX := box_new wr lo hi' tx
      have hlt8 := fun q hq => (hM.lt q hq).2
      replace hM : Mine (wr.alloc (.cells #[.int .i64 lo, .int .i64 hi', .string tx] 36)) w.heap.size u8 L := hM.alloc _
      replace hB := hB.alloc hB.size (.cells #[.int .i64 lo, .int .i64 hi', .string tx] 36)
      generalize hb : wr.heap.size = b at hX hlt8 ⊢
      clear hb
      generalize wr.alloc (.cells #[.int .i64 lo, .int .i64 hi', .string tx] 36) = w2 at hX hM hB ⊢
      obtain ⟨e0, e1, e2, _, _, _⟩ := box_cells hX
      go_region_law (refine step_append_lies _ rfl _ _ 22 rfl w.heap.size 36 i0 (.agg #[.int .i64 0, .int .i64 0, .string ⟨#[]⟩]) 3 32 Try.underlying22 hi hz0 hz1 hz2 rfl (by decide) _ _ _ rfl (World.ownsRow.drew (hM.alloc _)) ⟨w2.heap.size, 0, none⟩ 1 1 [.int .i64 (lo + z), .int .i64 (lo + z + (tx.size : Int)), .string u] rfl rfl (fun j u h => three_new w2 _ _ _ 36 j u h) (by intro v hv; simp at hv; rcases hv with rfl | rfl | rfl <;> rfl) (by omega) (by unfold maxLen; omega) (by omega) (by have := hB.size; simp; omega) _ rfl ?_; intro g' cap' w4 hown3 hg3 hat hlt4)
      all_goals
        have hM3 : Mine w4 w.heap.size (.slice (some ⟨g', 0, none⟩) (L.length + 1) cap') (L ++ [⟨lo + z, lo + z + tx.size, u⟩]) := by
          unfold Mine
          rw [cells3_app, List.length_append]
          exact hown3
        have hB5 : Below w.heap.size w w4 := (hB.alloc hB.size (.cells #[.int .i64 (lo + z), .int .i64 (lo + z + (tx.size : Int)), .string u] 36)).drew.grown hg3 (by have := hB.size; simp; omega) (fun q hq => by have := (hM.lt q hq).1; omega)
        have hX4 : Box w4 b lo hi' tx := by
          have hbl : b < w2.heap.size := (Array.getElem?_eq_some_iff.1 hX).1
          unfold Box
          rw [hg3.block b (by simp; omega) (fun e => by have := hlt8 b e.symm; omega)]
          exact (Below.heap_alloc w2 _ _ hbl).trans hX
        clear hat hlt4 hg3 hown3 hM hB hX hlt8 hsl e0 e1 e2
        obtain ⟨e0, e1, e2, _, _, _⟩ := box_cells hX4
        go_wp2_with (first
          | (go_at_call 30; refine (HGB.out _).mono ?_; rintro e w5 ⟨rfl, hB6⟩))
        go_roundw
        case rel => exact ⟨k + 1, z + ((tx.size : Int) - (hi' - lo)), by omega, by go_num, rfl, HST.out.2.symm, by rw [HST.out.1]; exact mine_below hM3 hB6, below_chain hB5 hB6⟩
        case measure => simp [intOf]; omega
    · obtain rfl : k = n := by omega
      rw [List.take_of_length_le (by omega)] at hM
      go_wp2
      go_ret2
      exact ⟨⟨_, rfl, hM⟩, hB⟩

/-- what Undo leaves -/
def UndoLeaves (base : Nat) (s : ByteArray) (es : List Ed) (e : Ending) (w' : World) : Prop :=
  ∃ v L, e = .returned (.tuple #[v, .int .i64 (applied s es).2]) ∧ Mine w' base v L ∧ L = (if (applied s es).2 = 0 then undos s 0 es else [])
theorem applied_ok {s : ByteArray} {es : List Ed} (h : (applied s es).2 = 0) : refused s es = 0 ∧ (textOf s.data.toList 0 es).length ≤ 65536 := by
  unfold applied at h
  split at h
  · rename_i h1
    split at h
    · cases h
    · exact ⟨h1, by omega⟩
  · rename_i h1; exact absurd h h1
theorem undo_any (s : ByteArray) (w : World) (a : Option Addr) (n cap : Nat) (es : List Ed) (he : Edits w a n es) (hn : n ≤ 4398046511103)
    (hap : ∀ w, Edits w a n es → Calls Try.prog 14 #[.string s, .slice a n cap] w fun e w' => e = .returned (.tuple #[.string ⟨(applied s es).1.toArray⟩, .int .i64 (applied s es).2]) ∧ Below w.heap.size w w') :
    Calls Try.prog 18 #[.string s, .slice a n cap] w fun e w' => UndoLeaves w.heap.size s es e w' ∧ Below w.heap.size w w' := by
  by_cases h : (applied s es).2 = 0
  · obtain ⟨hr, hT⟩ := applied_ok h
    obtain ⟨hs2, hst⟩ := refused_ok hr
    have hp := puts_textOf s.data.toList es 0
    refine (undo_ok s w a n cap es he hn (by omega) hs2 hst (fun w he => (hap w he).mono fun e w' ⟨h1, h2⟩ => ⟨⟨⟨(applied s es).1.toArray⟩, by rw [h1, h]⟩, h2⟩)).mono ?_
    rintro e w' ⟨⟨v, e1, e2⟩, e3⟩
    exact ⟨⟨v, _, by rw [h]; exact e1, e2, by rw [if_pos h]⟩, e3⟩
  · have hl : (if (applied s es).2 = 0 then undos s 0 es else []) = [] := if_neg h
    unfold UndoLeaves
    rw [hl]
    clear hl
    generalize (applied s es).2 = r at h hap
    generalize (applied s es).1 = T at hap
    have HAP := Lib.hid hap
    clear hap
    have hrb : (r == 0) = false := beq_eq_false_iff_ne.2 h
    go_enter Try.func18, Try.ntmps18
    go_wp2_with (first
      | (go_at_call 14; refine (HAP.out _ he).mono ?_; rintro e w1 ⟨rfl, hB⟩))
    go_ret2
    exact ⟨⟨_, _, rfl, mine_nil _ _, rfl⟩, hB⟩
end Go.Proofs.Ytigmakdfladjnaa
