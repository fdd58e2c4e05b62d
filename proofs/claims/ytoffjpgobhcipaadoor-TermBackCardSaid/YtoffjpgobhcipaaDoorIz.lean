/-
  Layer 11: contract of term.Read, of a text that is not too long.
-/
import Derived.Test.YtoffjpgobhcipaaDoorKb
import Derived.Deep.LoopGhost
namespace Go.Proofs.YtoffjpgobhcipaaDoor.Trm
open Go.ChangeShapes Go.WideShapes Go.ChangeAt Go.RowKit

set_option maxRecDepth 100000 in
set_option maxHeartbeats 8000000 in
theorem read_any (s : ByteArray) (hs : s.size ≤ 1048576) (w : World) (hE : Errs w) :
    Calls Tryd.prog 7 #[.string s] w fun e w' => ReadIs w.heap.size s.data.toList e w' ∧ Below w.heap.size w w' := by
  have hlen : s.data.toList.length = s.size := by simp
  have HE := Lib.hid hE
  have HL := Lib.hid hlen
  have d1 : decide ((1048576 : Int) < s.size) = false := decide_eq_false (by omega)
  have hB0 : Below w.heap.size w ((w.alloc (.cells #[.string s] 9)).alloc (.cells #[.int .i64 0] 3)) := ((Below.refl _ w).alloc (Nat.le_refl _) _).alloc (by simp) _
  have HB0 := Lib.hid hB0
  have hs0 : (w.alloc (.cells #[.string s] 9)).heap.size = w.heap.size + 1 := by simp
  have HS0 : Hid (((w.alloc (.cells #[.string s] 9)).alloc (.cells #[.int .i64 0] 3)).heap[w.heap.size]? = some (.cells #[.string s] 9 (0, 0))) := Lib.hid (by
    have h := ((Below.refl _ (w.alloc (.cells #[.string s] 9))).alloc (Nat.le_refl _) (.cells #[.int .i64 0] 3)).block w.heap.size (by simp)
    rw [h]; exact heap_alloc_new w _)
  have HQ0 : Hid (((w.alloc (.cells #[.string s] 9)).alloc (.cells #[.int .i64 0] 3)).heap[w.heap.size + 1]? = some (.cells #[.int .i64 ((0 : Nat) : Int)] 3 (0, 0))) := Lib.hid (by
    have h := heap_alloc_new (w.alloc (.cells #[.string s] 9)) (.cells #[.int .i64 0] 3)
    rw [hs0] at h; exact h)
  clear hE hlen hB0 hs0
  go_enter Tryd.func7, Tryd.ntmps7
  go_wp2
  go_loopg [4, 5, 8] s.size (fun g t4 t5 t8 wr => ∃ (first : Bool) (l : List Pt) (st : List Nat) (k : Nat), g = s.size - k ∧ t8 = .bool first ∧ k ≤ s.size ∧ Hid (MineP wr (w.heap.size + 2) t4 l) ∧ Hid (MineI wr (w.heap.size + 2) t5 (revI st)) ∧ Hid (wr.heap[w.heap.size]? = some (.cells #[.string s] 9 (0, 0))) ∧ Hid (wr.heap[w.heap.size + 1]? = some (.cells #[.int .i64 (k : Int)] 3 (0, 0))) ∧ Hid (Below w.heap.size w wr) ∧ Hid (ReadInv s.data.toList first l st k))
  case atStart => exact ⟨true, [], [], 0, rfl, rfl, Nat.zero_le _, Lib.hid (mineP_nil _ _), Lib.hid (mineI_nil _ _), HS0, HQ0, HB0, Lib.hid ⟨fun _ => ⟨rfl, rfl, rfl⟩, fun h => (by cases h), fun i hi => (by cases hi), Nat.le_refl _, Nat.le_refl _, fun x hx => (by cases hx)⟩⟩
  case round =>
    obtain ⟨first, l, st, k, rfl, rfl, hk, HM4, HM5, HS, HQ, HB, HI⟩ := hrel
    have cs := cell_of_one HS.out
    have cq := cell_of_one HQ.out
    have fq := free_of_one HQ.out
    obtain ⟨a4, c4, rfl, hP, hl4, hc4⟩ := mineP_parts HM4.out
    have HP := Lib.hid hP
    have HLL := Lib.hid (And.intro hl4 hc4)
    clear hP hl4 hc4
    cases first with
    | false =>
      cases st with
      | nil =>
        have hfin := HI.out.2.1 rfl
        obtain ⟨a5, c5, rfl, hA5, hl5, hc5⟩ := mineI_ints HM5.out
        clear hA5 hl5 hc5
        have hrl : (revI []).length = 0 := rfl
        rw [hrl]
        clear hrl
        by_cases hlt : k < s.size
        · have HR : Hid (∀ w', ReadIs w.heap.size s.data.toList (.returned (.tuple #[.slice none 0 0, .int .i64 9])) w') := Lib.hid (fun w' => ⟨_, 9, [], rfl, mineP_nil _ _, fun h => by rw [HL.out] at h; omega, fun _ => ⟨fun _ => ⟨rfl, rfl⟩, fun L hL => by
            unfold readP at hL
            rw [hfin] at hL
            have h1 : (s.data.toList.drop k).length = s.size - k := by rw [List.length_drop, HL.out]
            have h2 : s.data.toList.drop k ≠ [] := fun h => by rw [h] at h1; simp at h1; omega
            simp [finQ, h2] at hL⟩⟩)
          have dk : decide ((k : Int) < s.size) = true := decide_eq_true (by omega)
          clear hfin
          go_wp2
          go_ret2
          exact ⟨HR.out _, HB.out⟩
        · have hke : k = s.size := by omega
          have HR : Hid (ReadIs w.heap.size s.data.toList (.returned (.tuple #[.slice a4 l.length c4, .int .i64 0])) wr) := Lib.hid ⟨_, 0, l, rfl, ⟨HM4.out.1, HM4.out.2.imp id fun ⟨g, cap, cur, h1, h2, h3⟩ => ⟨g, cap, cur, h1, by omega, h3⟩⟩, fun h => by rw [HL.out] at h; omega, fun _ => by
            have h2 : s.data.toList.drop k = [] := List.drop_eq_nil_of_le (by rw [HL.out]; omega)
            rw [h2] at hfin
            unfold readP
            rw [hfin]
            simp [finQ]⟩
          have dk : decide ((k : Int) < s.size) = false := decide_eq_false (by omega)
          clear hfin hke
          go_wp2
          go_ret2
          exact ⟨HR.out, HB.out⟩
      | cons i st =>
        obtain ⟨g5, c5, cur5, rfl, hg5, hh5, ct5, hc5, hm5⟩ := mineI_top HM5.out
        have hfin := HI.out.2.1 rfl
        have hstk := HI.out.2.2.2.2.1
        rw [List.length_cons] at hstk
        have hst : st.length ≤ 1048576 := by omega
        by_cases h41 : s.data.toList[k]? = some 41
        · have hn := next_any s hs 41 k hk wr _ _ cs cq fq
          rw [if_pos h41, decide_eq_true h41] at hn
          have hkl : k < s.size := by rw [← HL.out]; exact (List.getElem?_eq_some_iff.1 h41).1
          have HI2 := Lib.hid (inv_pop HI.out h41)
          have HQ2 : Hid ((wr.setCell ⟨w.heap.size + 1, 0, none⟩ (.int .i64 ((k : Int) + 1))).heap[w.heap.size + 1]? = some (.cells #[.int .i64 ((k + 1 : Nat) : Int)] 3 (0, 0))) := Lib.hid (one_setCell HQ.out)
          have HS2 : Hid ((wr.setCell ⟨w.heap.size + 1, 0, none⟩ (.int .i64 ((k : Int) + 1))).heap[w.heap.size]? = some (.cells #[.string s] 9 (0, 0))) := Lib.hid (by rw [heap_setCell_other _ _ _ _ (by show w.heap.size ≠ w.heap.size + 1; omega)]; exact HS.out)
          have HM42 := Lib.hid (mineP_keep HM4.out ((keeps_set (j := 0) (v := .int .i64 ((k : Int) + 1)) HQ.out).sub (fun t ht => by subst ht; decide)))
          have HM52 : Hid (MineI (wr.setCell ⟨w.heap.size + 1, 0, none⟩ (.int .i64 ((k : Int) + 1))) (w.heap.size + 2) (.slice (some ⟨g5, 0, none⟩) st.length c5) (revI st)) := Lib.hid (ownsRow_setCell_other (mineI_pop HM5.out) (a := ⟨w.heap.size + 1, 0, none⟩) (by simp [Value.ownBlock]; omega) _)
          have HB2 : Hid (Below w.heap.size w (wr.setCell ⟨w.heap.size + 1, 0, none⟩ (.int .i64 ((k : Int) + 1)))) := Lib.hid (HB.out.setCell (p := ⟨w.heap.size + 1, 0, none⟩) (by show w.heap.size ≤ w.heap.size + 1; omega) _)
          have j0 : (0 : Int) < (st.length : Int) + 1 := by omega
          have q1 : IntKind.i64.wrap ((st.length : Int) + 1 - 1) = st.length := by rw [IntKind.wrap_i64]; omega
          clear h41 hfin hstk
          go_wp2_with (go_at_call 21; refine hn.mono ?_; rintro e w2 ⟨rfl, rfl⟩)
          go_roundg (s.size - (k + 1))
          case rel => exact ⟨false, l, st, k + 1, rfl, rfl, hkl, HM42, HM52, HS2, HQ2, HB2, HI2⟩
          case measure => omega
        · have HRF : Hid (finQ l (i :: st) (s.data.toList.drop k) = none → ∀ w', ReadIs w.heap.size s.data.toList (.returned (.tuple #[.slice none 0 0, .int .i64 9])) w') := Lib.hid (fun hq w' => ⟨_, 9, [], rfl, mineP_nil _ _, fun h => by rw [HL.out] at h; omega, fun _ => ⟨fun _ => ⟨rfl, rfl⟩, fun L hL => by
            unfold readP at hL
            rw [hfin, hq] at hL
            cases hL⟩⟩)
          have j0 : (0 : Int) < (st.length : Int) + 1 := by omega
          have hn41 := next_any s hs 41 k hk wr _ _ cs cq fq
          rw [if_neg h41, decide_eq_false h41] at hn41
          have hat : ∀ j, (s.data.toList.drop k)[j]? = s.data.toList[k + j]? := fun j => by rw [List.getElem?_drop]
          by_cases h32 : s.data.toList[k]? = some 32
          · have hkl : k < s.size := by rw [← HL.out]; exact (List.getElem?_eq_some_iff.1 h32).1
            have hn32 := next_yes s hs 32 k hk wr _ _ HS.out HQ.out h32
            by_cases h40 : s.data.toList[k + 1]? = some 40
            · have hkm : k + 1 < s.size := by rw [← HL.out]; exact (List.getElem?_eq_some_iff.1 h40).1
              obtain ⟨m, hm⟩ : ∃ m, m = k + 1 + 1 := ⟨_, rfl⟩
              have hms : m ≤ s.size := by omega
              have hx : (s.extract m s.size).data.toList = s.data.toList.drop m := by simp [List.take_of_length_le]
              have hxs : (s.extract m s.size).size ≤ 1048576 := by simp; omega
              obtain ⟨A, hA⟩ : ∃ A, A = headAns (s.data.toList.drop m) := ⟨_, rfl⟩
              have hhd : ∀ w', Errs w' → Calls Tryd.prog 23 #[.string (s.extract m s.size)] w' fun e w'' => e = .returned A ∧ Below w'.heap.size w' w'' := by
                intro w' hE'
                have h := head_any _ hxs w' hE'
                rw [hx, ← hA] at h
                exact h
              have hd2 : s.data.toList.drop m = (s.data.toList.drop k).drop 2 := by rw [List.drop_drop, hm]
              have HN := Lib.hid h40
              have HM := Lib.hid hm
              have j1 : (0 : Int) ≤ m := by omega
              have j2 : (m : Int) ≤ s.size := by omega
              cases hq : headOf (s.data.toList.drop m) with
              | none =>
                have hA1 : A = .tuple #[.agg #[.int .u8 0, .int .i64 0, .string ⟨#[]⟩], .int .i64 0] := by rw [hA]; unfold headAns; rw [hq]
                have HR := Lib.hid (HRF.out (fin_none l i st _ (by rw [hat]; exact h41) (fun h => by
                  obtain ⟨x, hx2⟩ := h.2.2
                  rw [← hd2, hq] at hx2; cases hx2)))
                subst hA1
                clear hA h41 h32 h40 hfin hstk hat HRF hx hxs hd2 hq hm
                go_wp2_with (first
                  | (go_at_call 21; (with_reducible refine hn41.mono ?_); rintro e w2 ⟨rfl, rfl⟩)
                  | (go_at_call 21; (with_reducible refine hn32.mono ?_); rintro e w3 ⟨rfl, hA3⟩; have HA3 := Lib.hid hA3; clear hA3; have hn40 := next_yes s hs 40 (k + 1) hkl w3 _ _ ((HA3.out.2.1 _ (by omega)).trans HS.out) HA3.out.1 HN.out; rw [← HM.out] at hn40)
                  | (go_at_call 21; (with_reducible refine hn40.mono ?_); rintro e w4 ⟨rfl, hA4⟩; have HA4 := Lib.hid hA4; clear hA4; have HB4 := Lib.hid (HB.out.trans ((HA3.out.2.2.1.trans HA4.out.2.2.1).mono (show w.heap.size ≤ w.heap.size + 1 by omega))); have cs4 := cell_of_one ((HA4.out.2.1 _ (by omega)).trans ((HA3.out.2.1 _ (by omega)).trans HS.out)); have cq4 := cell_of_one HA4.out.1; have hhd4 := hhd w4 (errs_below HE.out HB4.out))
                  | (go_at_call 23; (with_reducible refine hhd4.mono ?_); rintro e w5 ⟨rfl, hB5⟩))
                go_ret2
                exact ⟨HR.out _, ((HB4.out.trans (hB5.mono HB4.out.size)).alloc (HB4.out.trans (hB5.mono HB4.out.size)).size _)⟩
              | some y =>
                obtain ⟨p, r⟩ := y
                have hp0 : p.kids = 0 := head_kids hq
                have hil : i < l.length := HI.out.2.2.1 i (by simp)
                obtain ⟨x, hx'⟩ : ∃ x, l[i]? = some x := ⟨_, List.getElem?_eq_getElem hil⟩
                have hxk := HI.out.2.2.2.2.2 x (List.mem_of_getElem? hx')
                have hll := HI.out.2.2.2.1
                have hpu := inv_push HI.out h32 h40 (by rw [show k + 2 = m by omega]; exact hq) hx'
                obtain ⟨n, hn⟩ : ∃ n, n = (s.data.toList.drop m).length - r.length := ⟨_, rfl⟩
                have hdl : (s.data.toList.drop m).length = s.size - m := by rw [List.length_drop, HL.out]
                have hrl : m + r.length < s.size := by have := hpu.2; rw [HL.out] at this; omega
                have hmn : s.data.toList.length - r.length = m + n := by rw [HL.out]; omega
                have hI2 := hpu.1
                rw [hmn] at hI2
                have HI2 := Lib.hid hI2
                have hA1 : A = .tuple #[.agg #[.int .u8 p.kind, .int .i64 0, .string p.word], .int .i64 (n : Int)] := by rw [hA]; unfold headAns; rw [hq, hn]
                have hn0 : 0 < n := by omega
                have hn1 : m + n ≤ s.size := by omega
                have dn : (((n : Nat) : Int) == 0) = false := by simp; omega
                obtain ⟨g4, rfl, hg4, ck⟩ : ∃ g4, a4 = some ⟨g4, 0, none⟩ ∧ w.heap.size + 2 ≤ g4 ∧ wr.cell? ⟨g4, i * 3 + 1, none⟩ = some (.int .i64 x.kids) := by
                  rcases HM4.out.2 with ⟨h1, h0⟩ | ⟨g', cap', cur', h1, e2, _⟩
                  · omega
                  · simp only [Value.slice.injEq] at h1
                    refine ⟨g', h1.1, e2, ?_⟩
                    have h2 := HM4.out.cells (g := g') (by rw [h1.1]; rfl) _ _ (cellsP_at l i x hx').2.1
                    simpa [Addr.add] using h2
                subst hA1
                have m1 : IntKind.i64.wrap ((m : Int) + n) = (m : Int) + n := by rw [IntKind.wrap_i64]; omega
                have q1 : IntKind.i64.wrap ((st.length : Int) + 1 - 1) = st.length := by rw [IntKind.wrap_i64]; omega
                have x1 : IntKind.i64.wrap (x.kids + 1) = x.kids + 1 := by rw [IntKind.wrap_i64]; omega
                have j5 : (0 : Int) ≤ i := by omega
                have j6 : (i : Int) < l.length := by omega
                have HLQ := Lib.hid hll
                have hlb : l.length ≤ 1048576 := by omega
                have hX := Lib.hid hx'
                have hgB : w.heap.size ≤ wr.heap.size := HB.out.size
                obtain ⟨i0, hi0, hz0, hz1, hz2⟩ := info_parts info3
                have G1 := Lib.hid hi0
                have G2 := Lib.hid hz0
                have G3 := Lib.hid hz1
                have G4 := Lib.hid hz2
                obtain ⟨cur4, hh4⟩ : ∃ cur4, wr.heap[g4]? = some (.cells cur4 33 (0, 0)) := by
                  rcases HM4.out.2 with ⟨h1, _⟩ | ⟨g', cap', cur', h1, _, e3, _⟩
                  · cases h1
                  · simp only [Value.slice.injEq, Option.some.injEq, Addr.mk.injEq, and_true] at h1
                    rw [h1.1]; exact ⟨_, e3⟩
                have fk : wr.frozen? ⟨g4, i * 3 + 1, none⟩ = false := by simp [World.frozen?, hh4]
                have hg5w : g5 < wr.heap.size := by have := (Array.getElem?_eq_some_iff.1 hh5).1; exact this
                have hg4w : g4 < wr.heap.size := by have := (Array.getElem?_eq_some_iff.1 hh4).1; exact this
                have hg45 : g4 ≠ g5 := fun e => own_type HM4.out (k := g5) (by rw [← e]; rfl) hh5 (by decide)
                clear hA h41 h32 h40 hfin hstk hat HRF hx hxs hd2 hq hm hn hdl hrl hmn hI2 hpu hxk hx' hil hi0 hz0 hz1 hz2
                go_wp2_with (first
                  | (go_at_call 21; (with_reducible refine hn41.mono ?_); rintro e w2 ⟨rfl, rfl⟩)
                  | (go_at_call 21; (with_reducible refine hn32.mono ?_); rintro e w3 ⟨rfl, hA3⟩; have HA3 := Lib.hid hA3; clear hA3; have hn40 := next_yes s hs 40 (k + 1) hkl w3 _ _ ((HA3.out.2.1 _ (by omega)).trans HS.out) HA3.out.1 HN.out; rw [← HM.out] at hn40)
                  | (go_at_call 21; (with_reducible refine hn40.mono ?_); rintro e w4 ⟨rfl, hA4⟩; have HA4 := Lib.hid hA4; clear hA4; have HB4 := Lib.hid (HB.out.trans ((HA3.out.2.2.1.trans HA4.out.2.2.1).mono (show w.heap.size ≤ w.heap.size + 1 by omega))); have HS4 := Lib.hid ((HA4.out.2.1 _ (by omega)).trans ((HA3.out.2.1 _ (by omega)).trans HS.out)); have cs4 := cell_of_one HS4.out; have cq4 := cell_of_one HA4.out.1; have hz4 := HA4.out.2.2.2.trans HA3.out.2.2.2; have hhd4 := hhd w4 (errs_below HE.out HB4.out))
                  | (go_at_call 23; (with_reducible refine hhd4.mono ?_); rintro e w5 ⟨rfl, hB5⟩; have HB5 := Lib.hid hB5; clear hB5; have hz5 := HB5.out.size; have HQ6 : Hid ((w5.alloc (.cells #[.int .u8 p.kind, .int .i64 0, .string p.word] 33)).heap[w.heap.size + 1]? = some (.cells #[.int .i64 (m : Int)] 3 (0, 0))) := Lib.hid (by rw [heap_alloc_old _ _ (by omega), HB5.out.block _ (by omega)]; exact HA4.out.1); have cq6 := cell_of_one HQ6.out; have fq6 := free_of_one HQ6.out; have HS6 : Hid ((w5.alloc (.cells #[.int .u8 p.kind, .int .i64 0, .string p.word] 33)).heap[w.heap.size]? = some (.cells #[.string s] 9 (0, 0))) := Lib.hid (by rw [heap_alloc_old _ _ (by omega), HB5.out.block _ (by omega)]; exact HS4.out); have HP6 : Hid ((w5.alloc (.cells #[.int .u8 p.kind, .int .i64 0, .string p.word] 33)).heap[w5.heap.size]? = some (.cells #[.int .u8 p.kind, .int .i64 0, .string p.word] 33 (0, 0))) := Lib.hid (heap_alloc_new w5 _); have HB6 : Hid (Below w.heap.size w (w5.alloc (.cells #[.int .u8 p.kind, .int .i64 0, .string p.word] 33))) := Lib.hid ((HB4.out.trans (HB5.out.mono HB4.out.size)).alloc (HB4.out.trans (HB5.out.mono HB4.out.size)).size _); have HM46 : Hid (MineP (w5.alloc (.cells #[.int .u8 p.kind, .int .i64 0, .string p.word] 33)) (w.heap.size + 2) _ l) := Lib.hid (World.ownsRow.alloc (mineP_below (mineP_adv (mineP_adv HM4.out HA3.out (by omega)) HA4.out (by omega)) HB5.out) _); have HM56 : Hid (MineI (w5.alloc (.cells #[.int .u8 p.kind, .int .i64 0, .string p.word] 33)) (w.heap.size + 2) _ (revI (i :: st))) := Lib.hid (World.ownsRow.alloc (mineI_below (mineI_adv (mineI_adv HM5.out HA3.out (by omega)) HA4.out (by omega)) HB5.out) _); have ct6 := (World.cell?_of_block (a := ⟨g5, st.length, none⟩) ((heap_alloc_old w5 (.cells #[.int .u8 p.kind, .int .i64 0, .string p.word] 33) (show g5 < w5.heap.size by omega)).trans ((HB5.out.block g5 (by omega)).trans ((HA4.out.2.1 g5 (by omega)).trans (HA3.out.2.1 g5 (by omega)))))).trans ct5; have ck6 := (World.cell?_of_block (a := ⟨g4, i * 3 + 1, none⟩) ((heap_alloc_old w5 (.cells #[.int .u8 p.kind, .int .i64 0, .string p.word] 33) (show g4 < w5.heap.size by omega)).trans ((HB5.out.block g4 (by omega)).trans ((HA4.out.2.1 g4 (by omega)).trans (HA3.out.2.1 g4 (by omega)))))).trans ck; have fk6 := (World.frozen?_of_block (a := ⟨g4, i * 3 + 1, none⟩) ((heap_alloc_old w5 (.cells #[.int .u8 p.kind, .int .i64 0, .string p.word] 33) (show g4 < w5.heap.size by omega)).trans ((HB5.out.block g4 (by omega)).trans ((HA4.out.2.1 g4 (by omega)).trans (HA3.out.2.1 g4 (by omega)))))).trans fk; have HM48 := Lib.hid (mineP_set (x.kids + 1) hX.out (ownsRow_setCell_other HM46.out (a := ⟨w.heap.size + 1, 0, none⟩) (by simp [Value.ownBlock]; omega) (.int .i64 ((m : Int) + n)))); have HM58 := Lib.hid (show MineI _ (w.heap.size + 2) _ (revI (i :: st)) from ownsRow_setCell_other (ownsRow_setCell_other HM56.out (a := ⟨w.heap.size + 1, 0, none⟩) (by simp [Value.ownBlock]; omega) (.int .i64 ((m : Int) + n))) (a := ⟨g4, i * 3 + 1, none⟩) (by simp [Value.ownBlock]; omega) (.int .i64 (x.kids + 1))))
                  | (at_builtin; refine wpList_append_own _ rfl _ _ 35 rfl (w.heap.size + 2) 3 i0 (.int .i64 0) 1 8 Tryd.underlying35 G1.out G2.out G3.out G4.out rfl (by decide) _ _ _ rfl (HM58.out.alloc _) ⟨_, 0, none⟩ 1 1 [.int .i64 l.length] rfl rfl (one_at (by simp)) (by intro u hu; simp at hu; subst hu; rfl) ?c3 ?c4 ?c5 ?_))
                case c3 => rw [revI_len]; unfold maxLen; simp only [List.length_cons]; omega
                case c4 => rw [revI_len]; simp only [List.length_cons]; omega
                case c5 => have := HB6.out.size; simp at this ⊢; omega
                intro v6 w9 hown6 hg6 _
                have HM59 := Lib.hid (mineI_snoc hown6)
                rw [← revI_cons] at HM59
                have hp8 : (((w5.alloc (.cells #[.int .u8 p.kind, .int .i64 0, .string p.word] 33)).setCell ⟨w.heap.size + 1, 0, none⟩ (.int .i64 ((m : Int) + n))).setCell ⟨g4, i * 3 + 1, none⟩ (.int .i64 (x.kids + 1))).heap[w5.heap.size]? = some (.cells #[.int .u8 p.kind, .int .i64 0, .string p.word] 33 (0, 0)) := by rw [heap_setCell_other _ _ _ _ (by show _ ≠ g4; omega), heap_setCell_other _ _ _ _ (by show _ ≠ w.heap.size + 1; omega)]; exact HP6.out
                have hs8 : (((w5.alloc (.cells #[.int .u8 p.kind, .int .i64 0, .string p.word] 33)).setCell ⟨w.heap.size + 1, 0, none⟩ (.int .i64 ((m : Int) + n))).setCell ⟨g4, i * 3 + 1, none⟩ (.int .i64 (x.kids + 1))).heap[w.heap.size]? = some (.cells #[.string s] 9 (0, 0)) := by rw [heap_setCell_other _ _ _ _ (by show _ ≠ g4; omega), heap_setCell_other _ _ _ _ (by show _ ≠ w.heap.size + 1; omega)]; exact HS6.out
                have hq8 : (((w5.alloc (.cells #[.int .u8 p.kind, .int .i64 0, .string p.word] 33)).setCell ⟨w.heap.size + 1, 0, none⟩ (.int .i64 ((m : Int) + n))).setCell ⟨g4, i * 3 + 1, none⟩ (.int .i64 (x.kids + 1))).heap[w.heap.size + 1]? = some (.cells #[.int .i64 ((m : Int) + n)] 3 (0, 0)) := by rw [heap_setCell_other _ _ _ _ (by show _ ≠ g4; omega)]; exact one_setCell HQ6.out
                have hb8 : Below w.heap.size w (((w5.alloc (.cells #[.int .u8 p.kind, .int .i64 0, .string p.word] 33)).setCell ⟨w.heap.size + 1, 0, none⟩ (.int .i64 ((m : Int) + n))).setCell ⟨g4, i * 3 + 1, none⟩ (.int .i64 (x.kids + 1))) := (HB6.out.setCell (p := ⟨w.heap.size + 1, 0, none⟩) (by show w.heap.size ≤ w.heap.size + 1; omega) _).setCell (p := ⟨g4, i * 3 + 1, none⟩) (by show w.heap.size ≤ g4; omega) _
                have hz8 : w.heap.size + 2 ≤ (((w5.alloc (.cells #[.int .u8 p.kind, .int .i64 0, .string p.word] 33)).setCell ⟨w.heap.size + 1, 0, none⟩ (.int .i64 ((m : Int) + n))).setCell ⟨g4, i * 3 + 1, none⟩ (.int .i64 (x.kids + 1))).heap.size := by have := hz5; simp; omega
                have hK9 := keeps_grownE HM58.out hg6
                have hB9 : Below (w.heap.size + 2) (((w5.alloc (.cells #[.int .u8 p.kind, .int .i64 0, .string p.word] 33)).setCell ⟨w.heap.size + 1, 0, none⟩ (.int .i64 ((m : Int) + n))).setCell ⟨g4, i * 3 + 1, none⟩ (.int .i64 (x.kids + 1))) w9 := ((Below.refl _ _).alloc hz8 _).grown hg6 (by simp at hz8 ⊢; omega) (fun q hq => (HM58.out.lt q hq).1)
                have HB9 := Lib.hid (hb8.trans (hB9.mono (show w.heap.size ≤ w.heap.size + 2 by omega)))
                have HS9 := Lib.hid ((hB9.block w.heap.size (by omega)).trans hs8)
                have HQ9 := Lib.hid ((hB9.block (w.heap.size + 1) (by omega)).trans hq8)
                have hp9 := hK9 _ _ _ _ (show (33 : TypeId) ≠ 3 by decide) hp8
                have HM49 := Lib.hid (mineP_keep HM48.out (hK9.sub (fun t ht => by subst ht; decide)))
                have hz9 : w.heap.size + 2 ≤ w9.heap.size := Nat.le_trans hz8 hB9.size
                have p0 : w9.cell? ⟨w5.heap.size, 0, none⟩ = some (.int .u8 p.kind) := (cell_of_row _ _ 0 _ 33 (0, 0) hp9).trans rfl
                have p1 : w9.cell? ⟨w5.heap.size, 1, none⟩ = some (.int .i64 0) := (cell_of_row _ _ 1 _ 33 (0, 0) hp9).trans rfl
                have p2 : w9.cell? ⟨w5.heap.size, 2, none⟩ = some (.string p.word) := (cell_of_row _ _ 2 _ 33 (0, 0) hp9).trans rfl
                obtain ⟨i1, hi1, hy0, hy1, hy2⟩ := info_parts info28z
                have F1 := Lib.hid hi1
                have F2 := Lib.hid hy0
                have F3 := Lib.hid hy1
                have F4 := Lib.hid hy2
                have hml : (l.modify i fun q => { q with kids := x.kids + 1 }).length = l.length := by rw [List.length_modify]
                clear hown6 hg6 hp8 hs8 hq8 hb8 hz8 hK9 hB9 hp9 hi1 hy0 hy1 hy2 cq6 fq6
                go_wp2_with (at_builtin; refine wpList_append_own _ rfl _ _ 22 rfl (w.heap.size + 2) 33 i1 (.agg #[.int .u8 0, .int .i64 0, .string ⟨#[]⟩]) 3 32 Tryd.underlying22 F1.out F2.out F3.out F4.out rfl (by decide) _ _ _ rfl (HM49.out.alloc _) ⟨_, 0, none⟩ 1 1 [.int .u8 p.kind, .int .i64 0, .string p.word] rfl rfl (three_at (by simp)) (by intro u hu; simp at hu; rcases hu with rfl | rfl | rfl <;> rfl) ?d3 ?d4 ?d5 ?_)
                case d3 => unfold maxLen; simp only [List.length_modify]; omega
                case d4 => simp only [List.length_modify]; omega
                case d5 => simp; omega
                intro v7 w10 hown7 hg7 _
                have hK10 := keeps_grownE HM49.out hg7
                have hB10 : Below (w.heap.size + 2) w9 w10 := ((Below.refl _ _).alloc hz9 _).grown hg7 (by simp; omega) (fun q hq => (HM49.out.lt q hq).1)
                have HB10 := Lib.hid (HB9.out.trans (hB10.mono (show w.heap.size ≤ w.heap.size + 2 by omega)))
                have HS10 := Lib.hid ((hB10.block w.heap.size (by omega)).trans HS9.out)
                have HQ10 : Hid (w10.heap[w.heap.size + 1]? = some (.cells #[.int .i64 ((m + n : Nat) : Int)] 3 (0, 0))) := Lib.hid (((hB10.block (w.heap.size + 1) (by omega)).trans HQ9.out).trans (by rw [show ((m + n : Nat) : Int) = (m : Int) + n by omega]))
                have HM510 := Lib.hid (mineI_keep HM59.out (hK10.sub (fun t ht => by subst ht; decide)))
                have HM410 : Hid (MineP w10 (w.heap.size + 2) v7 ((l.modify i fun q => { q with kids := x.kids + 1 }) ++ [p])) := Lib.hid (mineP_snoc (by rw [hp0, hml]; exact hown7))
                clear hown7 hg7 hK10 hB10 p0 p1 p2
                go_wp2
                go_roundg (s.size - (m + n))
                case rel => exact ⟨false, _, _, m + n, rfl, rfl, hn1, HM410, HM510, HS10, HQ10, HB10, HI2⟩
                case measure => have := HM.out; omega
            · have HR := Lib.hid (HRF.out (fin_none l i st _ (by rw [hat]; exact h41) (fun h => h40 (by have := h.2.1; rw [hat] at this; exact this))))
              have HN := Lib.hid h40
              clear h41 h32 h40 hfin hstk hat HRF
              go_wp2_with (first
                | (go_at_call 21; (with_reducible refine hn41.mono ?_); rintro e w2 ⟨rfl, rfl⟩)
                | (go_at_call 21; (with_reducible refine hn32.mono ?_); rintro e w3 ⟨rfl, hA3⟩; have HA3 := Lib.hid hA3; clear hA3; have hn40 := next_no s hs 40 (k + 1) hkl w3 _ _ ((HA3.out.2.1 _ (by omega)).trans HS.out) HA3.out.1 HN.out)
                | (go_at_call 21; (with_reducible refine hn40.mono ?_); rintro e w4 ⟨rfl, rfl⟩))
              go_ret2
              exact ⟨HR.out _, HB.out.trans (HA3.out.2.2.1.mono (by omega))⟩
          · have hn32 := next_any s hs 32 k hk wr _ _ cs cq fq
            rw [if_neg h32, decide_eq_false h32] at hn32
            have HR := Lib.hid (HRF.out (fin_none l i st _ (by rw [hat]; exact h41) (fun h => h32 (by have := h.1; rw [hat] at this; exact this))))
            clear h41 h32 hfin hstk hat HRF
            go_wp2_with (first
              | (go_at_call 21; (with_reducible refine hn41.mono ?_); rintro e w2 ⟨rfl, rfl⟩)
              | (go_at_call 21; (with_reducible refine hn32.mono ?_); rintro e w2 ⟨rfl, rfl⟩))
            go_ret2
            exact ⟨HR.out _, HB.out⟩
    | true =>
      obtain ⟨rfl, rfl, rfl⟩ := HI.out.1 rfl
      obtain ⟨a5, c5, rfl, hA5, hl5, hc5⟩ := mineI_ints HM5.out
      clear hA5 hl5 hc5
      have hrl : (revI []).length = 0 := rfl
      have hrl2 : ([] : List Pt).length = 0 := rfl
      rw [hrl, hrl2]
      clear hrl hrl2
      have HRF : Hid (treeQ s.data.toList = none → ∀ w', ReadIs w.heap.size s.data.toList (.returned (.tuple #[.slice none 0 0, .int .i64 9])) w') := Lib.hid (fun hq w' => ⟨_, 9, [], rfl, mineP_nil _ _, fun h => by rw [HL.out] at h; omega, fun _ => ⟨fun _ => ⟨rfl, rfl⟩, fun L hL => by
        unfold readP at hL
        rw [hq] at hL
        cases hL⟩⟩)
      by_cases h40 : s.data.toList[0]? = some 40
      · have hkm : 0 < s.size := by rw [← HL.out]; exact (List.getElem?_eq_some_iff.1 h40).1
        have hn40 := next_yes s hs 40 0 hk wr _ _ HS.out HQ.out h40
        obtain ⟨m, hm⟩ : ∃ m, m = 0 + 1 := ⟨_, rfl⟩
        rw [← hm] at hn40
        have hms : m ≤ s.size := by omega
        have hx : (s.extract m s.size).data.toList = s.data.toList.drop m := by simp [List.take_of_length_le]
        have hxs : (s.extract m s.size).size ≤ 1048576 := by simp; omega
        obtain ⟨A, hA⟩ : ∃ A, A = headAns (s.data.toList.drop m) := ⟨_, rfl⟩
        have hhd : ∀ w', Errs w' → Calls Tryd.prog 23 #[.string (s.extract m s.size)] w' fun e w'' => e = .returned A ∧ Below w'.heap.size w' w'' := by
          intro w' hE'
          have h := head_any _ hxs w' hE'
          rw [hx, ← hA] at h
          exact h
        have HM := Lib.hid hm
        have j1 : (0 : Int) ≤ m := by omega
        have j2 : (m : Int) ≤ s.size := by omega
        cases hq : headOf (s.data.toList.drop m) with
        | none =>
          have hA1 : A = .tuple #[.agg #[.int .u8 0, .int .i64 0, .string ⟨#[]⟩], .int .i64 0] := by rw [hA]; unfold headAns; rw [hq]
          have HR := Lib.hid (HRF.out (by unfold treeQ; rw [if_pos h40, show 1 = m by omega, hq]; rfl))
          subst hA1
          clear hA h40 HRF hx hxs hq hm
          go_wp2_with (first
            | (go_at_call 21; (with_reducible refine hn40.mono ?_); rintro e w4 ⟨rfl, hA4⟩; have HA4 := Lib.hid hA4; clear hA4; have HB4 := Lib.hid (HB.out.trans (HA4.out.2.2.1.mono (show w.heap.size ≤ w.heap.size + 1 by omega))); have cs4 := cell_of_one ((HA4.out.2.1 _ (by omega)).trans HS.out); have cq4 := cell_of_one HA4.out.1; have hhd4 := hhd w4 (errs_below HE.out HB4.out))
            | (go_at_call 23; (with_reducible refine hhd4.mono ?_); rintro e w5 ⟨rfl, hB5⟩))
          go_ret2
          exact ⟨HR.out _, ((HB4.out.trans (hB5.mono HB4.out.size)).alloc (HB4.out.trans (hB5.mono HB4.out.size)).size _)⟩
        | some y =>
          obtain ⟨p, r⟩ := y
          have hp0 : p.kids = 0 := head_kids hq
          have hpu := inv_first h40 (by rw [show 1 = m by omega]; exact hq)
          obtain ⟨n, hn⟩ : ∃ n, n = (s.data.toList.drop m).length - r.length := ⟨_, rfl⟩
          have hdl : (s.data.toList.drop m).length = s.size - m := by rw [List.length_drop, HL.out]
          have hrl : m + r.length < s.size := by have := hpu.2; rw [HL.out] at this; omega
          have hmn : s.data.toList.length - r.length = m + n := by rw [HL.out]; omega
          have hI2 := hpu.1
          rw [hmn] at hI2
          have HI2 := Lib.hid hI2
          have hA1 : A = .tuple #[.agg #[.int .u8 p.kind, .int .i64 0, .string p.word], .int .i64 (n : Int)] := by rw [hA]; unfold headAns; rw [hq, hn]
          have hn0 : 0 < n := by omega
          have hn1 : m + n ≤ s.size := by omega
          have dn : (((n : Nat) : Int) == 0) = false := by simp; omega
          subst hA1
          have m1 : IntKind.i64.wrap ((m : Int) + n) = (m : Int) + n := by rw [IntKind.wrap_i64]; omega
          have hgB : w.heap.size ≤ wr.heap.size := HB.out.size
          have hzr : w.heap.size + 1 < wr.heap.size := (Array.getElem?_eq_some_iff.1 HQ.out).1
          obtain ⟨i0, hi0, hz0, hz1, hz2⟩ := info_parts info3
          have G1 := Lib.hid hi0
          have G2 := Lib.hid hz0
          have G3 := Lib.hid hz1
          have G4 := Lib.hid hz2
          clear hA h40 HRF hx hxs hq hm hn hdl hrl hmn hI2 hpu hi0 hz0 hz1 hz2
          go_wp2_with (first
            | (go_at_call 21; (with_reducible refine hn40.mono ?_); rintro e w4 ⟨rfl, hA4⟩; have HA4 := Lib.hid hA4; clear hA4; have HB4 := Lib.hid (HB.out.trans (HA4.out.2.2.1.mono (show w.heap.size ≤ w.heap.size + 1 by omega))); have HS4 := Lib.hid ((HA4.out.2.1 _ (by omega)).trans HS.out); have cs4 := cell_of_one HS4.out; have cq4 := cell_of_one HA4.out.1; have hz4 := HA4.out.2.2.2; have hhd4 := hhd w4 (errs_below HE.out HB4.out))
            | (go_at_call 23; (with_reducible refine hhd4.mono ?_); rintro e w5 ⟨rfl, hB5⟩; have HB5 := Lib.hid hB5; clear hB5; have hz5 := HB5.out.size; have HQ6 : Hid ((w5.alloc (.cells #[.int .u8 p.kind, .int .i64 0, .string p.word] 33)).heap[w.heap.size + 1]? = some (.cells #[.int .i64 (m : Int)] 3 (0, 0))) := Lib.hid (by rw [heap_alloc_old _ _ (by omega), HB5.out.block _ (by omega)]; exact HA4.out.1); have cq6 := cell_of_one HQ6.out; have fq6 := free_of_one HQ6.out; have HS6 : Hid ((w5.alloc (.cells #[.int .u8 p.kind, .int .i64 0, .string p.word] 33)).heap[w.heap.size]? = some (.cells #[.string s] 9 (0, 0))) := Lib.hid (by rw [heap_alloc_old _ _ (by omega), HB5.out.block _ (by omega)]; exact HS4.out); have HP6 : Hid ((w5.alloc (.cells #[.int .u8 p.kind, .int .i64 0, .string p.word] 33)).heap[w5.heap.size]? = some (.cells #[.int .u8 p.kind, .int .i64 0, .string p.word] 33 (0, 0))) := Lib.hid (heap_alloc_new w5 _); have HB6 : Hid (Below w.heap.size w (w5.alloc (.cells #[.int .u8 p.kind, .int .i64 0, .string p.word] 33))) := Lib.hid ((HB4.out.trans (HB5.out.mono HB4.out.size)).alloc (HB4.out.trans (HB5.out.mono HB4.out.size)).size _); have HM46 : Hid (MineP (w5.alloc (.cells #[.int .u8 p.kind, .int .i64 0, .string p.word] 33)) (w.heap.size + 2) _ []) := Lib.hid (World.ownsRow.alloc (mineP_below (mineP_adv HM4.out HA4.out (by omega)) HB5.out) _); have HM56 : Hid (MineI (w5.alloc (.cells #[.int .u8 p.kind, .int .i64 0, .string p.word] 33)) (w.heap.size + 2) _ (revI [])) := Lib.hid (World.ownsRow.alloc (mineI_below (mineI_adv HM5.out HA4.out (by omega)) HB5.out) _); have HM48 := Lib.hid (show MineP _ (w.heap.size + 2) _ [] from ownsRow_setCell_other HM46.out (a := ⟨w.heap.size + 1, 0, none⟩) (own_ne HM46.out (show w.heap.size + 1 < w.heap.size + 2 by omega)) (.int .i64 ((m : Int) + n))); have HM58 := Lib.hid (show MineI _ (w.heap.size + 2) _ (revI []) from ownsRow_setCell_other HM56.out (a := ⟨w.heap.size + 1, 0, none⟩) (own_ne HM56.out (show w.heap.size + 1 < w.heap.size + 2 by omega)) (.int .i64 ((m : Int) + n))))
            | (at_builtin; refine wpList_append_own _ rfl _ _ 35 rfl (w.heap.size + 2) 3 i0 (.int .i64 0) 1 8 Tryd.underlying35 G1.out G2.out G3.out G4.out rfl (by decide) _ _ _ rfl (HM58.out.alloc _) ⟨_, 0, none⟩ 1 1 [.int .i64 0] rfl rfl (one_at (by simp)) (by intro u hu; simp at hu; subst hu; rfl) ?c3 ?c4 ?c5 ?_))
          case c3 => rw [revI_len]; unfold maxLen; simp only [List.length_nil]; omega
          case c4 => rw [revI_len]; simp only [List.length_nil]; omega
          case c5 => have := HB6.out.size; simp at this ⊢; omega
          intro v6 w9 hown6 hg6 _
          have HM59 : Hid (MineI w9 (w.heap.size + 2) v6 (revI [0])) := Lib.hid (mineI_snoc hown6)
          have hp8 : ((w5.alloc (.cells #[.int .u8 p.kind, .int .i64 0, .string p.word] 33)).setCell ⟨w.heap.size + 1, 0, none⟩ (.int .i64 ((m : Int) + n))).heap[w5.heap.size]? = some (.cells #[.int .u8 p.kind, .int .i64 0, .string p.word] 33 (0, 0)) := by rw [heap_setCell_other _ _ _ _ (by show _ ≠ w.heap.size + 1; omega)]; exact HP6.out
          have hs8 : ((w5.alloc (.cells #[.int .u8 p.kind, .int .i64 0, .string p.word] 33)).setCell ⟨w.heap.size + 1, 0, none⟩ (.int .i64 ((m : Int) + n))).heap[w.heap.size]? = some (.cells #[.string s] 9 (0, 0)) := by rw [heap_setCell_other _ _ _ _ (by show _ ≠ w.heap.size + 1; omega)]; exact HS6.out
          have hq8 : ((w5.alloc (.cells #[.int .u8 p.kind, .int .i64 0, .string p.word] 33)).setCell ⟨w.heap.size + 1, 0, none⟩ (.int .i64 ((m : Int) + n))).heap[w.heap.size + 1]? = some (.cells #[.int .i64 ((m : Int) + n)] 3 (0, 0)) := one_setCell HQ6.out
          have hb8 : Below w.heap.size w ((w5.alloc (.cells #[.int .u8 p.kind, .int .i64 0, .string p.word] 33)).setCell ⟨w.heap.size + 1, 0, none⟩ (.int .i64 ((m : Int) + n))) := HB6.out.setCell (p := ⟨w.heap.size + 1, 0, none⟩) (by show w.heap.size ≤ w.heap.size + 1; omega) _
          have hz8 : w.heap.size + 2 ≤ ((w5.alloc (.cells #[.int .u8 p.kind, .int .i64 0, .string p.word] 33)).setCell ⟨w.heap.size + 1, 0, none⟩ (.int .i64 ((m : Int) + n))).heap.size := by have := hz5; simp; omega
          have hK9 := keeps_grownE HM58.out hg6
          have hB9 : Below (w.heap.size + 2) ((w5.alloc (.cells #[.int .u8 p.kind, .int .i64 0, .string p.word] 33)).setCell ⟨w.heap.size + 1, 0, none⟩ (.int .i64 ((m : Int) + n))) w9 := ((Below.refl _ _).alloc hz8 _).grown hg6 (by simp at hz8 ⊢; omega) (fun q hq => (HM58.out.lt q hq).1)
          have HB9 := Lib.hid (hb8.trans (hB9.mono (show w.heap.size ≤ w.heap.size + 2 by omega)))
          have HS9 := Lib.hid ((hB9.block w.heap.size (by omega)).trans hs8)
          have HQ9 := Lib.hid ((hB9.block (w.heap.size + 1) (by omega)).trans hq8)
          have hp9 := hK9 _ _ _ _ (show (33 : TypeId) ≠ 3 by decide) hp8
          have HM49 := Lib.hid (mineP_keep HM48.out (hK9.sub (fun t ht => by subst ht; decide)))
          have hz9 : w.heap.size + 2 ≤ w9.heap.size := Nat.le_trans hz8 hB9.size
          have p0 : w9.cell? ⟨w5.heap.size, 0, none⟩ = some (.int .u8 p.kind) := (cell_of_row _ _ 0 _ 33 (0, 0) hp9).trans rfl
          have p1 : w9.cell? ⟨w5.heap.size, 1, none⟩ = some (.int .i64 0) := (cell_of_row _ _ 1 _ 33 (0, 0) hp9).trans rfl
          have p2 : w9.cell? ⟨w5.heap.size, 2, none⟩ = some (.string p.word) := (cell_of_row _ _ 2 _ 33 (0, 0) hp9).trans rfl
          obtain ⟨i1, hi1, hy0, hy1, hy2⟩ := info_parts info28z
          have F1 := Lib.hid hi1
          have F2 := Lib.hid hy0
          have F3 := Lib.hid hy1
          have F4 := Lib.hid hy2
          have hml : ([] : List Pt).length = 0 := by rfl
          clear hown6 hg6 hp8 hs8 hq8 hb8 hz8 hK9 hB9 hp9 hi1 hy0 hy1 hy2 cq6 fq6
          go_wp2_with (at_builtin; refine wpList_append_own _ rfl _ _ 22 rfl (w.heap.size + 2) 33 i1 (.agg #[.int .u8 0, .int .i64 0, .string ⟨#[]⟩]) 3 32 Tryd.underlying22 F1.out F2.out F3.out F4.out rfl (by decide) _ _ _ rfl (HM49.out.alloc _) ⟨_, 0, none⟩ 1 1 [.int .u8 p.kind, .int .i64 0, .string p.word] rfl rfl (three_at (by simp)) (by intro u hu; simp at hu; rcases hu with rfl | rfl | rfl <;> rfl) ?d3 ?d4 ?d5 ?_)
          case d3 => unfold maxLen; simp only [List.length_nil]; omega
          case d4 => simp only [List.length_nil]; omega
          case d5 => simp; omega
          intro v7 w10 hown7 hg7 _
          have hK10 := keeps_grownE HM49.out hg7
          have hB10 : Below (w.heap.size + 2) w9 w10 := ((Below.refl _ _).alloc hz9 _).grown hg7 (by simp; omega) (fun q hq => (HM49.out.lt q hq).1)
          have HB10 := Lib.hid (HB9.out.trans (hB10.mono (show w.heap.size ≤ w.heap.size + 2 by omega)))
          have HS10 := Lib.hid ((hB10.block w.heap.size (by omega)).trans HS9.out)
          have HQ10 : Hid (w10.heap[w.heap.size + 1]? = some (.cells #[.int .i64 ((m + n : Nat) : Int)] 3 (0, 0))) := Lib.hid (((hB10.block (w.heap.size + 1) (by omega)).trans HQ9.out).trans (by rw [show ((m + n : Nat) : Int) = (m : Int) + n by omega]))
          have HM510 := Lib.hid (mineI_keep HM59.out (hK10.sub (fun t ht => by subst ht; decide)))
          have HM410 : Hid (MineP w10 (w.heap.size + 2) v7 (([] : List Pt) ++ [p])) := Lib.hid (mineP_snoc (by rw [hp0]; exact hown7))
          clear hown7 hg7 hK10 hB10 p0 p1 p2
          go_wp2
          go_roundg (s.size - (m + n))
          case rel => exact ⟨false, _, _, m + n, rfl, rfl, hn1, HM410, HM510, HS10, HQ10, HB10, HI2⟩
          case measure => have := HM.out; omega
      · have hn40 := next_no s hs 40 0 hk wr _ _ HS.out HQ.out h40
        have HR := Lib.hid (HRF.out (by unfold treeQ; rw [if_neg h40]))
        clear h40 HRF
        go_wp2_with (go_at_call 21; (with_reducible refine hn40.mono ?_); rintro e w4 ⟨rfl, rfl⟩)
        go_ret2
        exact ⟨HR.out _, HB.out⟩
end Go.Proofs.YtoffjpgobhcipaaDoor.Trm
