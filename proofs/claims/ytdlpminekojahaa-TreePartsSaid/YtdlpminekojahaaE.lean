/-
  Layer 10: contracts of tree.isTree, Check and has.
-/
import Derived.Test.YtdlpminekojahaaD
import Derived.Deep.RegionHeld3
import Derived.Deep.RegionWith
namespace Go.Proofs.Ytdlpminekojahaa
open Go.ChangeShapes Go.WideShapes Go.ChangeAt Go.RowKit

theorem leave_norm (st : List Rm) (h : ∀ r ∈ st, 0 ≤ r.left) : (leaveM st).map Rm.rw = norm (st.map Rm.rw) := by
  induction st with
  | nil => rfl
  | cons r st ih =>
    have h0 := h r List.mem_cons_self
    unfold leaveM
    rw [List.map_cons]
    unfold norm
    by_cases hz : r.left = 0
    · rw [if_pos hz, if_pos (by simp [Rm.rw, hz]), ih (fun r hr => h r (List.mem_cons_of_mem _ hr))]
    · rw [if_neg hz, if_neg (by simp [Rm.rw]; omega), List.map_cons]
theorem leave_mem {st : List Rm} : ∀ r ∈ leaveM st, r ∈ st := by
  induction st with
  | nil => intro r h; cases h
  | cons r st ih =>
    intro x hx
    unfold leaveM at hx
    split at hx
    · exact List.mem_cons_of_mem _ (ih x hx)
    · exact hx
theorem leave_len (st : List Rm) : (leaveM st).length ≤ st.length := by
  induction st with
  | nil => simp [leaveM]
  | cons r st ih =>
    unfold leaveM
    split
    · simp; omega
    · simp
theorem leave_top {st : List Rm} {r : Rm} {s : List Rm} (h : leaveM st = r :: s) : r.left ≠ 0 := by
  induction st with
  | nil => cases h
  | cons x st ih =>
    unfold leaveM at h
    split at h
    · exact ih h
    · injection h with h _; subst h; assumption
theorem enter_push (x : Nd) (r : Rm) (st : List Rm) (h : 1 ≤ r.left) : (enterM x (r :: st)).map Rm.rw = pushR x ((r :: st).map Rm.rw) := by
  simp only [enterM, pushR, List.map_cons, rowOf, Rm.rw]
  congr 2
  rw [show (r.left - 1).toNat = r.left.toNat - 1 by omega]
/-- the stack's rows, with bounds -/
def Good (st : List Rm) : Prop := (∀ r ∈ st, 0 ≤ r.left ∧ r.left ≤ 9223372036854775807) ∧ ∀ r s, st = r :: s → r.left ≠ 0
theorem good_next {x : Nd} {r : Rm} {st : List Rm} (h : Good (r :: st)) (h0 : 0 ≤ x.kids) (h1 : x.kids ≤ 9223372036854775807) : Good (leaveM (enterM x (r :: st))) := by
  refine ⟨fun y hy => ?_, fun y s e => leave_top e⟩
  have hm := leave_mem y hy
  simp only [enterM, List.mem_cons] at hm
  have hr := h.1 r List.mem_cons_self
  have hz := h.2 r st rfl
  rcases hm with rfl | rfl | hm
  · exact ⟨h0, h1⟩
  · dsimp only; omega
  · exact h.1 y (List.mem_cons_of_mem _ hm)
theorem chk_next {x : Nd} {r : Rm} {st : List Rm} (h : Good (r :: st)) (h0 : 0 ≤ x.kids) : norm (pushR x ((r :: st).map Rm.rw)) = (leaveM (enterM x (r :: st))).map Rm.rw := by
  have hr := h.1 r List.mem_cons_self
  have hz := h.2 r st rfl
  rw [← enter_push x r st (by omega), leave_norm]
  intro y hy
  simp only [enterM, List.mem_cons] at hy
  rcases hy with rfl | rfl | hy
  · exact h0
  · dsimp only; omega
  · exact (h.1 y (List.mem_cons_of_mem _ hy)).1
def rootM (N : Int) : Rm := ⟨⟨0, 0, -1, 0, N⟩, 1, 0⟩
set_option linter.unusedSimpArgs false in
set_option maxRecDepth 100000 in
set_option maxHeartbeats 16000000 in
theorem isTree_any (N : Int) (w : World) (a : Option Addr) (n cap : Nat) (l : List Nd) (hl : Nodes w a n l) (hn : n ≤ 1099511627775) (hK : ∀ x ∈ l, x.kids ≤ 9223372036854775807) :
    Calls Try.prog 25 #[.slice a n cap, .int .i64 N] w fun e w' => e = .returned (.bool (treeB N l)) ∧ Below w.heap.size w w' := by
  have HLK := Lib.hid hl.1
  have HKB := Lib.hid hK
  clear hK
  rw [← chk_tree]
  go_enter Try.func25, Try.ntmps25
  go_wp2
  go_loopw [14] (fun t wr => ∃ (k : Nat) (st : List Rm), k ≤ n ∧ t = .int .i64 k ∧ st.length ≤ k + 1 ∧ Hid (chk l [⟨-1, N, 0, 1⟩] = chk (l.drop k) (st.map Rm.rw)) ∧ Hid (BoxM wr (w.heap.size + 1) w.heap.size st) ∧ Hid (Good st) ∧ Hid (Below w.heap.size w wr)) (fun t _ => n - (intOf t).toNat)
  case atStart =>
    refine ⟨0, [rootM N], Nat.zero_le _, rfl, by simp, Lib.hid rfl, Lib.hid ⟨_, heap_alloc2_new _ _ _, ?_, by simp [Value.ownBlock]⟩, Lib.hid ⟨fun r hr => ?_, fun r s e => ?_⟩, Lib.hid (((Below.refl _ w).alloc (Nat.le_refl _) _).alloc (by simp) _)⟩
    · exact World.ownsRow.alloc (World.ownsRow_lit w _ 1 (Nat.le_refl _) (by unfold maxLen; omega) rfl) _
    · simp at hr; subst hr; simp [rootM]
    · injection e with e _; subst e; simp [rootM]
  case round =>
    obtain ⟨k, st, hk, rfl, hst, HC, HX, HG, HB⟩ := hrel
    by_cases hlt : k < n
    · obtain ⟨x, hx⟩ : ∃ x, l[k]? = some x := ⟨_, nodes_some hl hlt⟩
      obtain ⟨g0, off, rfl, c0, c1, c2, c3, c4⟩ := (nodes_below hl HB.out).2 k x hx
      have hd : l.drop k = x :: l.drop (k + 1) := by
        obtain ⟨h1, h2⟩ := List.getElem?_eq_some_iff.1 hx
        rw [List.drop_eq_getElem_cons h1, h2]
      have HKX := Lib.hid (HKB.out x (List.mem_of_getElem? hx))
      have HC2 := HC.out
      rw [hd] at HC2
      have hxm := heap_alloc_new wr (.cells (ndV x).toArray 35)
      have hX1 := boxM_below HX.out ((Below.refl _ wr).alloc (Nat.le_refl _) (.cells (ndV x).toArray 35))
      have hB1 := HB.out.alloc HB.out.size (.cells (ndV x).toArray 35)
      have HXM := Lib.hid hxm
      have HX1 := Lib.hid hX1
      have HB1 := Lib.hid hB1
      clear hx hd hxm hX1 hB1
      have hxs : Below w.heap.size wr (wr.alloc (.cells (ndV x).toArray 35)) := (Below.refl _ wr).alloc HB.out.size _
      cases st with
      | nil =>
        have HC3 := Lib.hid HC2
        obtain ⟨v, hb, hv, _⟩ := HX1.out
        obtain ⟨a0, cap0, rfl⟩ : ∃ a0 cap0, v = .slice a0 0 cap0 := by
          rcases hv.2 with ⟨h, _⟩ | ⟨g, cap, cur, h, _⟩
          · exact ⟨none, 0, h⟩
          · exact ⟨_, cap, h⟩
        have cb := cell_of_one hb
        clear hv hb HC2 hxs
        simp only [ndV] at HB1 HX1 HXM cb
        go_wp2
        generalize wr.alloc _ = W1 at HB1 HX1 HXM cb ⊢
        clear c0 c1 c2 c3 c4
        first | (go_quiet (fail)) | fail
        go_wp2
        go_ret
        exact ⟨ret_bool (by rw [HC3.out]; rfl), below_drewN HB1.out _⟩
      | cons r st =>
        obtain ⟨v, hb, hv, _⟩ := HX1.out
        obtain ⟨g, cp, rfl, hgb, hcp, hcr⟩ := stkM_top hv
        obtain ⟨m, hm⟩ : ∃ m, m = st.length := ⟨_, rfl⟩
        rw [← hm] at hb hcp hcr
        rw [List.length_cons, ← hm] at hst
        have cb := cell_of_one hb
        have r0 := hcr 0 _ (by omega) rfl
        have r1 := hcr 1 _ (by omega) rfl
        have r2 := hcr 2 _ (by omega) rfl
        have r3 := hcr 3 _ (by omega) rfl
        have r4 := hcr 4 _ (by omega) rfl
        have r5 := hcr 5 _ (by omega) rfl
        have r6 := hcr 6 _ (by omega) rfl
        rw [Nat.add_zero] at r0
        have HM := Lib.hid hm
        have x1 := cell_of_row _ _ 1 _ _ _ HXM.out
        have x0 := cell_of_row _ _ 0 _ _ _ HXM.out
        have x2 := cell_of_row _ _ 2 _ _ _ HXM.out
        have x3 := cell_of_row _ _ 3 _ _ _ HXM.out
        have x4 := cell_of_row _ _ 4 _ _ _ HXM.out
        simp only [ndV, List.getElem?_toArray, List.getElem?_cons_zero, List.getElem?_cons_succ] at x0 x1 x2 x3 x4
        have hzw := hxs.size
        have hgl := cell_lt r0
        dsimp only at hgl
        have hbl := cell_lt cb
        dsimp only at hbl
        have hzl : wr.heap.size < (wr.alloc (.cells (ndV x).toArray 35)).heap.size := by simp
        have hft := fun w => fits_any r x w
        obtain ⟨q, hq⟩ : ∃ q, q = fitsB r.rw x := ⟨_, rfl⟩
        rw [← hq] at hft
        have HQ := Lib.hid hq
        clear hb hv hcr hm hq hxs
        simp only [ndV, rmV, List.cons_append, List.nil_append] at HB1 HX1 HXM cb r0 r1 r2 r3 r4 r5 r6 x0 x1 x2 x3 x4 hft hzw hzl hgl hbl
        go_wp2
        generalize wr.alloc (.cells #[.int .u8 x.kind, .int .i64 x.kids, .int .i64 x.word, .int .i64 x.lo, .int .i64 x.hi] 35) = W1 at HB1 HX1 HXM cb r0 r1 r2 r3 r4 r5 r6 x0 x1 x2 x3 x4 hzw hzl hgl hbl ⊢
        clear c0 c1 c2 c3 c4
        have w1 : IntKind.i64.wrap ((m : Int) + 1 - 1) = (m : Int) := by rw [IntKind.wrap_i64]; omega
        have w2 : IntKind.i64.wrap (m : Int) = (m : Int) := by rw [IntKind.wrap_i64]; omega
        have w3 : IntKind.i64.wrap ((n : Int) - 1) = (n : Int) - 1 := by rw [IntKind.wrap_i64]; omega
        have w4 : IntKind.i64.wrap ((n : Int) - 1 - k) = (n : Int) - 1 - k := by rw [IntKind.wrap_i64]; omega
        have j0 : (0 : Int) ≤ m := by omega
        have j1 : (m : Int) < m + 1 := by omega
        have q1 : ((m : Int) + 1 == 0) = false := by simp; omega
        cases q with
        | false =>
          refine wp_region_held_drew (S := (fun w' => w'.cell? ⟨w.heap.size + 1, 0, none⟩ = some (.slice (some ⟨g, 0, none⟩) (m + 1) cp) ∧ w'.cell? ⟨g, m * 7, none⟩ = some (.int .u8 r.nd.kind) ∧ w'.cell? ⟨g, m * 7 + 1, none⟩ = some (.int .i64 r.nd.kids) ∧ w'.cell? ⟨g, m * 7 + 2, none⟩ = some (.int .i64 r.nd.word) ∧ w'.cell? ⟨g, m * 7 + 3, none⟩ = some (.int .i64 r.nd.lo) ∧ w'.cell? ⟨g, m * 7 + 4, none⟩ = some (.int .i64 r.nd.hi) ∧ w'.cell? ⟨g, m * 7 + 5, none⟩ = some (.int .i64 r.left) ∧ w'.cell? ⟨g, m * 7 + 6, none⟩ = some (.int .i64 r.fr) ∧ w'.cell? ⟨wr.heap.size, 0, none⟩ = some (.int .u8 x.kind) ∧ w'.cell? ⟨wr.heap.size, 1, none⟩ = some (.int .i64 x.kids) ∧ w'.cell? ⟨wr.heap.size, 2, none⟩ = some (.int .i64 x.word) ∧ w'.cell? ⟨wr.heap.size, 3, none⟩ = some (.int .i64 x.lo) ∧ w'.cell? ⟨wr.heap.size, 4, none⟩ = some (.int .i64 x.hi))) (by kernel_rfl) ?_ (fun hHeld => ?_)
          · exact ⟨cb, r0, r1, r2, r3, r4, r5, r6, x0, x1, x2, x3, x4⟩
          refine wpAnyH_take (i := 0) (v := ?_) rfl (by kernel_rfl) (by kernel_rfl) (by kernel_rfl) (fun _ _ _ h => h) (Or.inl ⟨by rfl, ?_⟩) (by assumption) ?_
          rotate_left
          · intro w hSw; (try dsimp only at hSw); go_simp; try with_reducible rfl
          (try simp only [List.getElem_toArray, List.getElem_cons_zero, List.getElem_cons_succ, Act.put, List.setIfInBounds_toArray, List.set_cons_zero, List.set_cons_succ])
          refine wpAnyH_take (i := 1) (v := ?_) rfl (by kernel_rfl) (by kernel_rfl) (by kernel_rfl) (fun _ _ _ h => h) (Or.inl ⟨by rfl, ?_⟩) (by assumption) ?_
          rotate_left
          · intro w hSw; (try dsimp only at hSw); go_simp; try with_reducible rfl
          (try simp only [List.getElem_toArray, List.getElem_cons_zero, List.getElem_cons_succ, Act.put, List.setIfInBounds_toArray, List.set_cons_zero, List.set_cons_succ])
          refine wpAnyH_take (i := 2) (v := ?_) rfl (by kernel_rfl) (by kernel_rfl) (by kernel_rfl) (fun _ _ _ h => h) (Or.inl ⟨by rfl, ?_⟩) (by assumption) ?_
          rotate_left
          · intro w hSw; (try dsimp only at hSw); go_simp; try with_reducible rfl
          (try simp only [List.getElem_toArray, List.getElem_cons_zero, List.getElem_cons_succ, Act.put, List.setIfInBounds_toArray, List.set_cons_zero, List.set_cons_succ])
          refine wpAnyH_take (i := 3) (v := ?_) rfl (by kernel_rfl) (by kernel_rfl) (by kernel_rfl) (fun _ _ _ h => h) (Or.inl ⟨by rfl, ?_⟩) (by assumption) ?_
          rotate_left
          · intro w hSw; (try dsimp only at hSw); go_simp; try with_reducible rfl
          (try simp only [List.getElem_toArray, List.getElem_cons_zero, List.getElem_cons_succ, Act.put, List.setIfInBounds_toArray, List.set_cons_zero, List.set_cons_succ])
          refine wpAnyH_take (i := 4) (v := ?_) rfl (by kernel_rfl) (by kernel_rfl) (by kernel_rfl) (fun _ _ _ h => h) (Or.inl ⟨by rfl, ?_⟩) (by assumption) ?_
          rotate_left
          · intro w hSw; (try dsimp only at hSw); go_simp; try with_reducible rfl
          (try simp only [List.getElem_toArray, List.getElem_cons_zero, List.getElem_cons_succ, Act.put, List.setIfInBounds_toArray, List.set_cons_zero, List.set_cons_succ])
          refine wpAnyH_take (i := 5) (v := ?_) rfl (by kernel_rfl) (by kernel_rfl) (by kernel_rfl) (fun _ _ _ h => h) (Or.inl ⟨by rfl, ?_⟩) (by assumption) ?_
          rotate_left
          · intro w hSw; (try dsimp only at hSw); go_simp; try with_reducible rfl
          (try simp only [List.getElem_toArray, List.getElem_cons_zero, List.getElem_cons_succ, Act.put, List.setIfInBounds_toArray, List.set_cons_zero, List.set_cons_succ])
          refine wpAnyH_take (i := 6) (v := ?_) rfl (by kernel_rfl) (by kernel_rfl) (by kernel_rfl) (fun _ _ _ h => h) (Or.inl ⟨by rfl, ?_⟩) (by assumption) ?_
          rotate_left
          · intro w hSw; (try dsimp only at hSw); go_simp; try with_reducible rfl
          (try simp only [List.getElem_toArray, List.getElem_cons_zero, List.getElem_cons_succ, Act.put, List.setIfInBounds_toArray, List.set_cons_zero, List.set_cons_succ])
          refine wpAnyH_take (i := 7) (v := ?_) rfl (by kernel_rfl) (by kernel_rfl) (by kernel_rfl) (fun _ _ _ h => h) (Or.inl ⟨by rfl, ?_⟩) (by assumption) ?_
          rotate_left
          · intro w hSw; (try dsimp only at hSw); go_simp; try with_reducible rfl
          (try simp only [List.getElem_toArray, List.getElem_cons_zero, List.getElem_cons_succ, Act.put, List.setIfInBounds_toArray, List.set_cons_zero, List.set_cons_succ])
          refine wpAnyH_take (i := 8) (v := ?_) rfl (by kernel_rfl) (by kernel_rfl) (by kernel_rfl) (fun _ _ _ h => h) (Or.inl ⟨by rfl, ?_⟩) (by assumption) ?_
          rotate_left
          · intro w hSw; (try dsimp only at hSw); go_simp; try with_reducible rfl
          (try simp only [List.getElem_toArray, List.getElem_cons_zero, List.getElem_cons_succ, Act.put, List.setIfInBounds_toArray, List.set_cons_zero, List.set_cons_succ])
          refine wpAnyH_take (i := 9) (v := ?_) rfl (by kernel_rfl) (by kernel_rfl) (by kernel_rfl) (fun _ _ _ h => h) (Or.inl ⟨by rfl, ?_⟩) (by assumption) ?_
          rotate_left
          · intro w hSw; (try dsimp only at hSw); go_simp; try with_reducible rfl
          (try simp only [List.getElem_toArray, List.getElem_cons_zero, List.getElem_cons_succ, Act.put, List.setIfInBounds_toArray, List.set_cons_zero, List.set_cons_succ])
          refine wpAnyH_take (i := 10) (v := ?_) rfl (by kernel_rfl) (by kernel_rfl) (by kernel_rfl) (fun _ _ _ h => h) (Or.inl ⟨by rfl, ?_⟩) (by assumption) ?_
          rotate_left
          · intro w hSw; (try dsimp only at hSw); go_simp; try with_reducible rfl
          (try simp only [List.getElem_toArray, List.getElem_cons_zero, List.getElem_cons_succ, Act.put, List.setIfInBounds_toArray, List.set_cons_zero, List.set_cons_succ])
          refine wpAnyH_ready (rs := [11]) (by kernel_rfl) (by simp) ?_
          refine AllReadyH.cons rfl (fun K hK => ?_) AllReadyH.nil
          go_simp
          (go_at_call 33; (with_reducible refine (hft _).mono ?_); rintro e w6 ⟨rfl, hB6⟩; have hx : Below W1.heap.size W1 w6 := (Below.refl _ W1).drew.trans hB6; clear hB6)
          refine hK.out _ _ ?_ (fun hHeld2 => ?_)
          · exact ⟨(hx.cell (p := ⟨w.heap.size + 1, 0, none⟩) hbl).trans cb, (hx.cell (p := ⟨g, m * 7, none⟩) hgl).trans r0, (hx.cell (p := ⟨g, m * 7 + 1, none⟩) hgl).trans r1, (hx.cell (p := ⟨g, m * 7 + 2, none⟩) hgl).trans r2, (hx.cell (p := ⟨g, m * 7 + 3, none⟩) hgl).trans r3, (hx.cell (p := ⟨g, m * 7 + 4, none⟩) hgl).trans r4, (hx.cell (p := ⟨g, m * 7 + 5, none⟩) hgl).trans r5, (hx.cell (p := ⟨g, m * 7 + 6, none⟩) hgl).trans r6, (hx.cell (p := ⟨wr.heap.size, 0, none⟩) hzl).trans x0, (hx.cell (p := ⟨wr.heap.size, 1, none⟩) hzl).trans x1, (hx.cell (p := ⟨wr.heap.size, 2, none⟩) hzl).trans x2, (hx.cell (p := ⟨wr.heap.size, 3, none⟩) hzl).trans x3, (hx.cell (p := ⟨wr.heap.size, 4, none⟩) hzl).trans x4⟩
          clear hK K hHeld
          (try simp only [List.getElem_toArray, List.getElem_cons_zero, List.getElem_cons_succ, Act.put, List.setIfInBounds_toArray, List.set_cons_zero, List.set_cons_succ])
          refine wpAnyH_take (i := 12) (v := ?_) rfl (by kernel_rfl) (by kernel_rfl) (by kernel_rfl) (fun _ _ _ h => h) (Or.inl ⟨by rfl, ?_⟩) (by assumption) ?_
          rotate_left
          · intro w hSw; (try dsimp only at hSw); go_simp; try with_reducible rfl
          (try simp only [List.getElem_toArray, List.getElem_cons_zero, List.getElem_cons_succ, Act.put, List.setIfInBounds_toArray, List.set_cons_zero, List.set_cons_succ])
          refine wpAnyH_take (i := 13) (v := ?_) rfl (by kernel_rfl) (by kernel_rfl) (by kernel_rfl) (fun _ _ _ h => h) (Or.inl ⟨by rfl, ?_⟩) (by assumption) ?_
          rotate_left
          · intro w hSw; (try dsimp only at hSw); go_simp; try with_reducible rfl
          (try simp only [List.getElem_toArray, List.getElem_cons_zero, List.getElem_cons_succ, Act.put, List.setIfInBounds_toArray, List.set_cons_zero, List.set_cons_succ])
          refine wpAnyH_take (i := 14) (v := ?_) rfl (by kernel_rfl) (by kernel_rfl) (by kernel_rfl) (fun _ _ _ h => h) (Or.inl ⟨by rfl, ?_⟩) (by assumption) ?_
          rotate_left
          · intro w hSw; (try dsimp only at hSw); go_simp; try with_reducible rfl
          (try simp only [List.getElem_toArray, List.getElem_cons_zero, List.getElem_cons_succ, Act.put, List.setIfInBounds_toArray, List.set_cons_zero, List.set_cons_succ])
          refine wpAnyH_take (i := 15) (v := undef) rfl (by kernel_rfl) (by kernel_rfl) (by kernel_rfl) (fun _ _ _ h => h) (Or.inr ⟨by rfl, rfl⟩) (by assumption) ?_
          (try simp only [List.getElem_toArray, List.getElem_cons_zero, List.getElem_cons_succ, Act.put, List.setIfInBounds_toArray, List.set_cons_zero, List.set_cons_succ])
          refine wpAnyH_take (i := 16) (v := undef) rfl (by kernel_rfl) (by kernel_rfl) (by kernel_rfl) (fun _ _ _ h => h) (Or.inr ⟨by rfl, rfl⟩) (by assumption) ?_
          (try simp only [List.getElem_toArray, List.getElem_cons_zero, List.getElem_cons_succ, Act.put, List.setIfInBounds_toArray, List.set_cons_zero, List.set_cons_succ])
          refine wpAnyH_take (i := 17) (v := undef) rfl (by kernel_rfl) (by kernel_rfl) (by kernel_rfl) (fun _ _ _ h => h) (Or.inr ⟨by rfl, rfl⟩) (by assumption) ?_
          (try simp only [List.getElem_toArray, List.getElem_cons_zero, List.getElem_cons_succ, Act.put, List.setIfInBounds_toArray, List.set_cons_zero, List.set_cons_succ])
          refine wpAnyH_take (i := 18) (v := undef) rfl (by kernel_rfl) (by kernel_rfl) (by kernel_rfl) (fun _ _ _ h => h) (Or.inr ⟨by rfl, rfl⟩) (by assumption) ?_
          (try simp only [List.getElem_toArray, List.getElem_cons_zero, List.getElem_cons_succ, Act.put, List.setIfInBounds_toArray, List.set_cons_zero, List.set_cons_succ])
          refine wpAnyH_take (i := 19) (v := undef) rfl (by kernel_rfl) (by kernel_rfl) (by kernel_rfl) (fun _ _ _ h => h) (Or.inr ⟨by rfl, rfl⟩) (by assumption) ?_
          (try simp only [List.getElem_toArray, List.getElem_cons_zero, List.getElem_cons_succ, Act.put, List.setIfInBounds_toArray, List.set_cons_zero, List.set_cons_succ])
          refine wpAnyH_take (i := 20) (v := undef) rfl (by kernel_rfl) (by kernel_rfl) (by kernel_rfl) (fun _ _ _ h => h) (Or.inr ⟨by rfl, rfl⟩) (by assumption) ?_
          (try simp only [List.getElem_toArray, List.getElem_cons_zero, List.getElem_cons_succ, Act.put, List.setIfInBounds_toArray, List.set_cons_zero, List.set_cons_succ])
          refine wpAnyH_take (i := 21) (v := undef) rfl (by kernel_rfl) (by kernel_rfl) (by kernel_rfl) (fun _ _ _ h => h) (Or.inr ⟨by rfl, rfl⟩) (by assumption) ?_
          (try simp only [List.getElem_toArray, List.getElem_cons_zero, List.getElem_cons_succ, Act.put, List.setIfInBounds_toArray, List.set_cons_zero, List.set_cons_succ])
          refine wpAnyH_take (i := 22) (v := undef) rfl (by kernel_rfl) (by kernel_rfl) (by kernel_rfl) (fun _ _ _ h => h) (Or.inr ⟨by rfl, rfl⟩) (by assumption) ?_
          (try simp only [List.getElem_toArray, List.getElem_cons_zero, List.getElem_cons_succ, Act.put, List.setIfInBounds_toArray, List.set_cons_zero, List.set_cons_succ])
          refine wpAnyH_take (i := 23) (v := ?_) rfl (by kernel_rfl) (by kernel_rfl) (by kernel_rfl) (fun _ _ _ h => h) (Or.inl ⟨by rfl, ?_⟩) (by assumption) ?_
          rotate_left
          · intro w hSw; (try dsimp only at hSw); go_simp; try with_reducible rfl
          (try simp only [List.getElem_toArray, List.getElem_cons_zero, List.getElem_cons_succ, Act.put, List.setIfInBounds_toArray, List.set_cons_zero, List.set_cons_succ])
          refine wpAnyH_done (by kernel_rfl) ?_ _
          all_goals
            go_wp2
            go_ret
            refine ⟨ret_bool ?_, HB1.out.trans (hx.mono (Nat.le_trans HB.out.size (by omega)))⟩
            rw [HC2, List.map_cons, chk, ← HQ.out]; rfl
        | true =>
          by_cases hkk : (n : Int) - 1 - k < x.kids
          · have d1 : decide ((n : Int) - 1 - k < x.kids) = true := decide_eq_true hkk
            have HKK := Lib.hid hkk
            clear hkk
            refine wp_region_held_drew (S := (fun w' => w'.cell? ⟨w.heap.size + 1, 0, none⟩ = some (.slice (some ⟨g, 0, none⟩) (m + 1) cp) ∧ w'.cell? ⟨g, m * 7, none⟩ = some (.int .u8 r.nd.kind) ∧ w'.cell? ⟨g, m * 7 + 1, none⟩ = some (.int .i64 r.nd.kids) ∧ w'.cell? ⟨g, m * 7 + 2, none⟩ = some (.int .i64 r.nd.word) ∧ w'.cell? ⟨g, m * 7 + 3, none⟩ = some (.int .i64 r.nd.lo) ∧ w'.cell? ⟨g, m * 7 + 4, none⟩ = some (.int .i64 r.nd.hi) ∧ w'.cell? ⟨g, m * 7 + 5, none⟩ = some (.int .i64 r.left) ∧ w'.cell? ⟨g, m * 7 + 6, none⟩ = some (.int .i64 r.fr) ∧ w'.cell? ⟨wr.heap.size, 0, none⟩ = some (.int .u8 x.kind) ∧ w'.cell? ⟨wr.heap.size, 1, none⟩ = some (.int .i64 x.kids) ∧ w'.cell? ⟨wr.heap.size, 2, none⟩ = some (.int .i64 x.word) ∧ w'.cell? ⟨wr.heap.size, 3, none⟩ = some (.int .i64 x.lo) ∧ w'.cell? ⟨wr.heap.size, 4, none⟩ = some (.int .i64 x.hi))) (by kernel_rfl) ?_ (fun hHeld => ?_)
            · exact ⟨cb, r0, r1, r2, r3, r4, r5, r6, x0, x1, x2, x3, x4⟩
            refine wpAnyH_take (i := 0) (v := ?_) rfl (by kernel_rfl) (by kernel_rfl) (by kernel_rfl) (fun _ _ _ h => h) (Or.inl ⟨by rfl, ?_⟩) (by assumption) ?_
            rotate_left
            · intro w hSw; (try dsimp only at hSw); go_simp; try with_reducible rfl
            (try simp only [List.getElem_toArray, List.getElem_cons_zero, List.getElem_cons_succ, Act.put, List.setIfInBounds_toArray, List.set_cons_zero, List.set_cons_succ])
            refine wpAnyH_take (i := 1) (v := ?_) rfl (by kernel_rfl) (by kernel_rfl) (by kernel_rfl) (fun _ _ _ h => h) (Or.inl ⟨by rfl, ?_⟩) (by assumption) ?_
            rotate_left
            · intro w hSw; (try dsimp only at hSw); go_simp; try with_reducible rfl
            (try simp only [List.getElem_toArray, List.getElem_cons_zero, List.getElem_cons_succ, Act.put, List.setIfInBounds_toArray, List.set_cons_zero, List.set_cons_succ])
            refine wpAnyH_take (i := 2) (v := ?_) rfl (by kernel_rfl) (by kernel_rfl) (by kernel_rfl) (fun _ _ _ h => h) (Or.inl ⟨by rfl, ?_⟩) (by assumption) ?_
            rotate_left
            · intro w hSw; (try dsimp only at hSw); go_simp; try with_reducible rfl
            (try simp only [List.getElem_toArray, List.getElem_cons_zero, List.getElem_cons_succ, Act.put, List.setIfInBounds_toArray, List.set_cons_zero, List.set_cons_succ])
            refine wpAnyH_take (i := 3) (v := ?_) rfl (by kernel_rfl) (by kernel_rfl) (by kernel_rfl) (fun _ _ _ h => h) (Or.inl ⟨by rfl, ?_⟩) (by assumption) ?_
            rotate_left
            · intro w hSw; (try dsimp only at hSw); go_simp; try with_reducible rfl
            (try simp only [List.getElem_toArray, List.getElem_cons_zero, List.getElem_cons_succ, Act.put, List.setIfInBounds_toArray, List.set_cons_zero, List.set_cons_succ])
            refine wpAnyH_take (i := 4) (v := ?_) rfl (by kernel_rfl) (by kernel_rfl) (by kernel_rfl) (fun _ _ _ h => h) (Or.inl ⟨by rfl, ?_⟩) (by assumption) ?_
            rotate_left
            · intro w hSw; (try dsimp only at hSw); go_simp; try with_reducible rfl
            (try simp only [List.getElem_toArray, List.getElem_cons_zero, List.getElem_cons_succ, Act.put, List.setIfInBounds_toArray, List.set_cons_zero, List.set_cons_succ])
            refine wpAnyH_take (i := 5) (v := ?_) rfl (by kernel_rfl) (by kernel_rfl) (by kernel_rfl) (fun _ _ _ h => h) (Or.inl ⟨by rfl, ?_⟩) (by assumption) ?_
            rotate_left
            · intro w hSw; (try dsimp only at hSw); go_simp; try with_reducible rfl
            (try simp only [List.getElem_toArray, List.getElem_cons_zero, List.getElem_cons_succ, Act.put, List.setIfInBounds_toArray, List.set_cons_zero, List.set_cons_succ])
            refine wpAnyH_take (i := 6) (v := ?_) rfl (by kernel_rfl) (by kernel_rfl) (by kernel_rfl) (fun _ _ _ h => h) (Or.inl ⟨by rfl, ?_⟩) (by assumption) ?_
            rotate_left
            · intro w hSw; (try dsimp only at hSw); go_simp; try with_reducible rfl
            (try simp only [List.getElem_toArray, List.getElem_cons_zero, List.getElem_cons_succ, Act.put, List.setIfInBounds_toArray, List.set_cons_zero, List.set_cons_succ])
            refine wpAnyH_take (i := 7) (v := ?_) rfl (by kernel_rfl) (by kernel_rfl) (by kernel_rfl) (fun _ _ _ h => h) (Or.inl ⟨by rfl, ?_⟩) (by assumption) ?_
            rotate_left
            · intro w hSw; (try dsimp only at hSw); go_simp; try with_reducible rfl
            (try simp only [List.getElem_toArray, List.getElem_cons_zero, List.getElem_cons_succ, Act.put, List.setIfInBounds_toArray, List.set_cons_zero, List.set_cons_succ])
            refine wpAnyH_take (i := 8) (v := ?_) rfl (by kernel_rfl) (by kernel_rfl) (by kernel_rfl) (fun _ _ _ h => h) (Or.inl ⟨by rfl, ?_⟩) (by assumption) ?_
            rotate_left
            · intro w hSw; (try dsimp only at hSw); go_simp; try with_reducible rfl
            (try simp only [List.getElem_toArray, List.getElem_cons_zero, List.getElem_cons_succ, Act.put, List.setIfInBounds_toArray, List.set_cons_zero, List.set_cons_succ])
            refine wpAnyH_take (i := 9) (v := ?_) rfl (by kernel_rfl) (by kernel_rfl) (by kernel_rfl) (fun _ _ _ h => h) (Or.inl ⟨by rfl, ?_⟩) (by assumption) ?_
            rotate_left
            · intro w hSw; (try dsimp only at hSw); go_simp; try with_reducible rfl
            (try simp only [List.getElem_toArray, List.getElem_cons_zero, List.getElem_cons_succ, Act.put, List.setIfInBounds_toArray, List.set_cons_zero, List.set_cons_succ])
            refine wpAnyH_take (i := 10) (v := ?_) rfl (by kernel_rfl) (by kernel_rfl) (by kernel_rfl) (fun _ _ _ h => h) (Or.inl ⟨by rfl, ?_⟩) (by assumption) ?_
            rotate_left
            · intro w hSw; (try dsimp only at hSw); go_simp; try with_reducible rfl
            (try simp only [List.getElem_toArray, List.getElem_cons_zero, List.getElem_cons_succ, Act.put, List.setIfInBounds_toArray, List.set_cons_zero, List.set_cons_succ])
            refine wpAnyH_ready (rs := [11]) (by kernel_rfl) (by simp) ?_
            refine AllReadyH.cons rfl (fun K hK => ?_) AllReadyH.nil
            go_simp
            (go_at_call 33; (with_reducible refine (hft _).mono ?_); rintro e w6 ⟨rfl, hB6⟩; have hx : Below W1.heap.size W1 w6 := (Below.refl _ W1).drew.trans hB6; clear hB6)
            refine hK.out _ _ ?_ (fun hHeld2 => ?_)
            · exact ⟨(hx.cell (p := ⟨w.heap.size + 1, 0, none⟩) hbl).trans cb, (hx.cell (p := ⟨g, m * 7, none⟩) hgl).trans r0, (hx.cell (p := ⟨g, m * 7 + 1, none⟩) hgl).trans r1, (hx.cell (p := ⟨g, m * 7 + 2, none⟩) hgl).trans r2, (hx.cell (p := ⟨g, m * 7 + 3, none⟩) hgl).trans r3, (hx.cell (p := ⟨g, m * 7 + 4, none⟩) hgl).trans r4, (hx.cell (p := ⟨g, m * 7 + 5, none⟩) hgl).trans r5, (hx.cell (p := ⟨g, m * 7 + 6, none⟩) hgl).trans r6, (hx.cell (p := ⟨wr.heap.size, 0, none⟩) hzl).trans x0, (hx.cell (p := ⟨wr.heap.size, 1, none⟩) hzl).trans x1, (hx.cell (p := ⟨wr.heap.size, 2, none⟩) hzl).trans x2, (hx.cell (p := ⟨wr.heap.size, 3, none⟩) hzl).trans x3, (hx.cell (p := ⟨wr.heap.size, 4, none⟩) hzl).trans x4⟩
            clear hK K hHeld
            (try simp only [List.getElem_toArray, List.getElem_cons_zero, List.getElem_cons_succ, Act.put, List.setIfInBounds_toArray, List.set_cons_zero, List.set_cons_succ])
            refine wpAnyH_take (i := 12) (v := ?_) rfl (by kernel_rfl) (by kernel_rfl) (by kernel_rfl) (fun _ _ _ h => h) (Or.inl ⟨by rfl, ?_⟩) (by assumption) ?_
            rotate_left
            · intro w hSw; (try dsimp only at hSw); go_simp; try with_reducible rfl
            (try simp only [List.getElem_toArray, List.getElem_cons_zero, List.getElem_cons_succ, Act.put, List.setIfInBounds_toArray, List.set_cons_zero, List.set_cons_succ])
            refine wpAnyH_take (i := 13) (v := ?_) rfl (by kernel_rfl) (by kernel_rfl) (by kernel_rfl) (fun _ _ _ h => h) (Or.inl ⟨by rfl, ?_⟩) (by assumption) ?_
            rotate_left
            · intro w hSw; (try dsimp only at hSw); go_simp; try with_reducible rfl
            (try simp only [List.getElem_toArray, List.getElem_cons_zero, List.getElem_cons_succ, Act.put, List.setIfInBounds_toArray, List.set_cons_zero, List.set_cons_succ])
            refine wpAnyH_take (i := 14) (v := ?_) rfl (by kernel_rfl) (by kernel_rfl) (by kernel_rfl) (fun _ _ _ h => h) (Or.inl ⟨by rfl, ?_⟩) (by assumption) ?_
            rotate_left
            · intro w hSw; (try dsimp only at hSw); go_simp; try with_reducible rfl
            (try simp only [List.getElem_toArray, List.getElem_cons_zero, List.getElem_cons_succ, Act.put, List.setIfInBounds_toArray, List.set_cons_zero, List.set_cons_succ])
            refine wpAnyH_take (i := 15) (v := ?_) rfl (by kernel_rfl) (by kernel_rfl) (by kernel_rfl) (fun _ _ _ h => h) (Or.inl ⟨by rfl, ?_⟩) (by assumption) ?_
            rotate_left
            · intro w hSw; (try dsimp only at hSw); go_simp; try with_reducible rfl
            (try simp only [List.getElem_toArray, List.getElem_cons_zero, List.getElem_cons_succ, Act.put, List.setIfInBounds_toArray, List.set_cons_zero, List.set_cons_succ])
            refine wpAnyH_take (i := 16) (v := ?_) rfl (by kernel_rfl) (by kernel_rfl) (by kernel_rfl) (fun _ _ _ h => h) (Or.inl ⟨by rfl, ?_⟩) (by assumption) ?_
            rotate_left
            · intro w hSw; (try dsimp only at hSw); go_simp; try with_reducible rfl
            (try simp only [List.getElem_toArray, List.getElem_cons_zero, List.getElem_cons_succ, Act.put, List.setIfInBounds_toArray, List.set_cons_zero, List.set_cons_succ])
            refine wpAnyH_take (i := 17) (v := ?_) rfl (by kernel_rfl) (by kernel_rfl) (by kernel_rfl) (fun _ _ _ h => h) (Or.inl ⟨by rfl, ?_⟩) (by assumption) ?_
            rotate_left
            · intro w hSw; (try dsimp only at hSw); go_simp; try with_reducible rfl
            (try simp only [List.getElem_toArray, List.getElem_cons_zero, List.getElem_cons_succ, Act.put, List.setIfInBounds_toArray, List.set_cons_zero, List.set_cons_succ])
            refine wpAnyH_take (i := 18) (v := ?_) rfl (by kernel_rfl) (by kernel_rfl) (by kernel_rfl) (fun _ _ _ h => h) (Or.inl ⟨by rfl, ?_⟩) (by assumption) ?_
            rotate_left
            · intro w hSw; (try dsimp only at hSw); go_simp; try with_reducible rfl
            (try simp only [List.getElem_toArray, List.getElem_cons_zero, List.getElem_cons_succ, Act.put, List.setIfInBounds_toArray, List.set_cons_zero, List.set_cons_succ])
            refine wpAnyH_take (i := 19) (v := ?_) rfl (by kernel_rfl) (by kernel_rfl) (by kernel_rfl) (fun _ _ _ h => h) (Or.inl ⟨by rfl, ?_⟩) (by assumption) ?_
            rotate_left
            · intro w hSw; (try dsimp only at hSw); go_simp; try with_reducible rfl
            (try simp only [List.getElem_toArray, List.getElem_cons_zero, List.getElem_cons_succ, Act.put, List.setIfInBounds_toArray, List.set_cons_zero, List.set_cons_succ])
            refine wpAnyH_take (i := 20) (v := ?_) rfl (by kernel_rfl) (by kernel_rfl) (by kernel_rfl) (fun _ _ _ h => h) (Or.inl ⟨by rfl, ?_⟩) (by assumption) ?_
            rotate_left
            · intro w hSw; (try dsimp only at hSw); go_simp; try with_reducible rfl
            (try simp only [List.getElem_toArray, List.getElem_cons_zero, List.getElem_cons_succ, Act.put, List.setIfInBounds_toArray, List.set_cons_zero, List.set_cons_succ])
            refine wpAnyH_take (i := 21) (v := ?_) rfl (by kernel_rfl) (by kernel_rfl) (by kernel_rfl) (fun _ _ _ h => h) (Or.inl ⟨by rfl, ?_⟩) (by assumption) ?_
            rotate_left
            · intro w hSw; (try dsimp only at hSw); go_simp; try with_reducible rfl
            (try simp only [List.getElem_toArray, List.getElem_cons_zero, List.getElem_cons_succ, Act.put, List.setIfInBounds_toArray, List.set_cons_zero, List.set_cons_succ])
            refine wpAnyH_take (i := 22) (v := ?_) rfl (by kernel_rfl) (by kernel_rfl) (by kernel_rfl) (fun _ _ _ h => h) (Or.inl ⟨by rfl, ?_⟩) (by assumption) ?_
            rotate_left
            · intro w hSw; (try dsimp only at hSw); go_simp; try with_reducible rfl
            (try simp only [List.getElem_toArray, List.getElem_cons_zero, List.getElem_cons_succ, Act.put, List.setIfInBounds_toArray, List.set_cons_zero, List.set_cons_succ])
            refine wpAnyH_take (i := 23) (v := ?_) rfl (by kernel_rfl) (by kernel_rfl) (by kernel_rfl) (fun _ _ _ h => h) (Or.inl ⟨by rfl, ?_⟩) (by assumption) ?_
            rotate_left
            · intro w hSw; (try dsimp only at hSw); go_simp; try with_reducible rfl
            (try simp only [List.getElem_toArray, List.getElem_cons_zero, List.getElem_cons_succ, Act.put, List.setIfInBounds_toArray, List.set_cons_zero, List.set_cons_succ])
            refine wpAnyH_done (by kernel_rfl) ?_ _
            all_goals
              go_wp2
              go_ret
              refine ⟨ret_bool ?_, HB1.out.trans (hx.mono (Nat.le_trans HB.out.size (by omega)))⟩
              rw [HC2, List.map_cons, chk, ← HQ.out, decide_eq_false (by have := HKK.out; rw [List.length_drop, HLK.out]; omega)]; rfl
          · have d1 : decide ((n : Int) - 1 - k < x.kids) = false := decide_eq_false hkk
            have HKK := Lib.hid hkk
            clear hkk
            refine wp_region_held_drew (S := (fun w' => w'.cell? ⟨w.heap.size + 1, 0, none⟩ = some (.slice (some ⟨g, 0, none⟩) (m + 1) cp) ∧ w'.cell? ⟨g, m * 7, none⟩ = some (.int .u8 r.nd.kind) ∧ w'.cell? ⟨g, m * 7 + 1, none⟩ = some (.int .i64 r.nd.kids) ∧ w'.cell? ⟨g, m * 7 + 2, none⟩ = some (.int .i64 r.nd.word) ∧ w'.cell? ⟨g, m * 7 + 3, none⟩ = some (.int .i64 r.nd.lo) ∧ w'.cell? ⟨g, m * 7 + 4, none⟩ = some (.int .i64 r.nd.hi) ∧ w'.cell? ⟨g, m * 7 + 5, none⟩ = some (.int .i64 r.left) ∧ w'.cell? ⟨g, m * 7 + 6, none⟩ = some (.int .i64 r.fr) ∧ w'.cell? ⟨wr.heap.size, 0, none⟩ = some (.int .u8 x.kind) ∧ w'.cell? ⟨wr.heap.size, 1, none⟩ = some (.int .i64 x.kids) ∧ w'.cell? ⟨wr.heap.size, 2, none⟩ = some (.int .i64 x.word) ∧ w'.cell? ⟨wr.heap.size, 3, none⟩ = some (.int .i64 x.lo) ∧ w'.cell? ⟨wr.heap.size, 4, none⟩ = some (.int .i64 x.hi))) (by kernel_rfl) ?_ (fun hHeld => ?_)
            · exact ⟨cb, r0, r1, r2, r3, r4, r5, r6, x0, x1, x2, x3, x4⟩
            refine wpAnyH_take (i := 0) (v := ?_) rfl (by kernel_rfl) (by kernel_rfl) (by kernel_rfl) (fun _ _ _ h => h) (Or.inl ⟨by rfl, ?_⟩) (by assumption) ?_
            rotate_left
            · intro w hSw; (try dsimp only at hSw); go_simp; try with_reducible rfl
            (try simp only [List.getElem_toArray, List.getElem_cons_zero, List.getElem_cons_succ, Act.put, List.setIfInBounds_toArray, List.set_cons_zero, List.set_cons_succ])
            refine wpAnyH_take (i := 1) (v := ?_) rfl (by kernel_rfl) (by kernel_rfl) (by kernel_rfl) (fun _ _ _ h => h) (Or.inl ⟨by rfl, ?_⟩) (by assumption) ?_
            rotate_left
            · intro w hSw; (try dsimp only at hSw); go_simp; try with_reducible rfl
            (try simp only [List.getElem_toArray, List.getElem_cons_zero, List.getElem_cons_succ, Act.put, List.setIfInBounds_toArray, List.set_cons_zero, List.set_cons_succ])
            refine wpAnyH_take (i := 2) (v := ?_) rfl (by kernel_rfl) (by kernel_rfl) (by kernel_rfl) (fun _ _ _ h => h) (Or.inl ⟨by rfl, ?_⟩) (by assumption) ?_
            rotate_left
            · intro w hSw; (try dsimp only at hSw); go_simp; try with_reducible rfl
            (try simp only [List.getElem_toArray, List.getElem_cons_zero, List.getElem_cons_succ, Act.put, List.setIfInBounds_toArray, List.set_cons_zero, List.set_cons_succ])
            refine wpAnyH_take (i := 3) (v := ?_) rfl (by kernel_rfl) (by kernel_rfl) (by kernel_rfl) (fun _ _ _ h => h) (Or.inl ⟨by rfl, ?_⟩) (by assumption) ?_
            rotate_left
            · intro w hSw; (try dsimp only at hSw); go_simp; try with_reducible rfl
            (try simp only [List.getElem_toArray, List.getElem_cons_zero, List.getElem_cons_succ, Act.put, List.setIfInBounds_toArray, List.set_cons_zero, List.set_cons_succ])
            refine wpAnyH_take (i := 4) (v := ?_) rfl (by kernel_rfl) (by kernel_rfl) (by kernel_rfl) (fun _ _ _ h => h) (Or.inl ⟨by rfl, ?_⟩) (by assumption) ?_
            rotate_left
            · intro w hSw; (try dsimp only at hSw); go_simp; try with_reducible rfl
            (try simp only [List.getElem_toArray, List.getElem_cons_zero, List.getElem_cons_succ, Act.put, List.setIfInBounds_toArray, List.set_cons_zero, List.set_cons_succ])
            refine wpAnyH_take (i := 5) (v := ?_) rfl (by kernel_rfl) (by kernel_rfl) (by kernel_rfl) (fun _ _ _ h => h) (Or.inl ⟨by rfl, ?_⟩) (by assumption) ?_
            rotate_left
            · intro w hSw; (try dsimp only at hSw); go_simp; try with_reducible rfl
            (try simp only [List.getElem_toArray, List.getElem_cons_zero, List.getElem_cons_succ, Act.put, List.setIfInBounds_toArray, List.set_cons_zero, List.set_cons_succ])
            refine wpAnyH_take (i := 6) (v := ?_) rfl (by kernel_rfl) (by kernel_rfl) (by kernel_rfl) (fun _ _ _ h => h) (Or.inl ⟨by rfl, ?_⟩) (by assumption) ?_
            rotate_left
            · intro w hSw; (try dsimp only at hSw); go_simp; try with_reducible rfl
            (try simp only [List.getElem_toArray, List.getElem_cons_zero, List.getElem_cons_succ, Act.put, List.setIfInBounds_toArray, List.set_cons_zero, List.set_cons_succ])
            refine wpAnyH_take (i := 7) (v := ?_) rfl (by kernel_rfl) (by kernel_rfl) (by kernel_rfl) (fun _ _ _ h => h) (Or.inl ⟨by rfl, ?_⟩) (by assumption) ?_
            rotate_left
            · intro w hSw; (try dsimp only at hSw); go_simp; try with_reducible rfl
            (try simp only [List.getElem_toArray, List.getElem_cons_zero, List.getElem_cons_succ, Act.put, List.setIfInBounds_toArray, List.set_cons_zero, List.set_cons_succ])
            refine wpAnyH_take (i := 8) (v := ?_) rfl (by kernel_rfl) (by kernel_rfl) (by kernel_rfl) (fun _ _ _ h => h) (Or.inl ⟨by rfl, ?_⟩) (by assumption) ?_
            rotate_left
            · intro w hSw; (try dsimp only at hSw); go_simp; try with_reducible rfl
            (try simp only [List.getElem_toArray, List.getElem_cons_zero, List.getElem_cons_succ, Act.put, List.setIfInBounds_toArray, List.set_cons_zero, List.set_cons_succ])
            refine wpAnyH_take (i := 9) (v := ?_) rfl (by kernel_rfl) (by kernel_rfl) (by kernel_rfl) (fun _ _ _ h => h) (Or.inl ⟨by rfl, ?_⟩) (by assumption) ?_
            rotate_left
            · intro w hSw; (try dsimp only at hSw); go_simp; try with_reducible rfl
            (try simp only [List.getElem_toArray, List.getElem_cons_zero, List.getElem_cons_succ, Act.put, List.setIfInBounds_toArray, List.set_cons_zero, List.set_cons_succ])
            refine wpAnyH_take (i := 10) (v := ?_) rfl (by kernel_rfl) (by kernel_rfl) (by kernel_rfl) (fun _ _ _ h => h) (Or.inl ⟨by rfl, ?_⟩) (by assumption) ?_
            rotate_left
            · intro w hSw; (try dsimp only at hSw); go_simp; try with_reducible rfl
            (try simp only [List.getElem_toArray, List.getElem_cons_zero, List.getElem_cons_succ, Act.put, List.setIfInBounds_toArray, List.set_cons_zero, List.set_cons_succ])
            refine wpAnyH_ready (rs := [11]) (by kernel_rfl) (by simp) ?_
            refine AllReadyH.cons rfl (fun K hK => ?_) AllReadyH.nil
            go_simp
            (go_at_call 33; (with_reducible refine (hft _).mono ?_); rintro e w6 ⟨rfl, hB6⟩; have hx : Below W1.heap.size W1 w6 := (Below.refl _ W1).drew.trans hB6; clear hB6)
            refine hK.out _ _ ?_ (fun hHeld2 => ?_)
            · exact ⟨(hx.cell (p := ⟨w.heap.size + 1, 0, none⟩) hbl).trans cb, (hx.cell (p := ⟨g, m * 7, none⟩) hgl).trans r0, (hx.cell (p := ⟨g, m * 7 + 1, none⟩) hgl).trans r1, (hx.cell (p := ⟨g, m * 7 + 2, none⟩) hgl).trans r2, (hx.cell (p := ⟨g, m * 7 + 3, none⟩) hgl).trans r3, (hx.cell (p := ⟨g, m * 7 + 4, none⟩) hgl).trans r4, (hx.cell (p := ⟨g, m * 7 + 5, none⟩) hgl).trans r5, (hx.cell (p := ⟨g, m * 7 + 6, none⟩) hgl).trans r6, (hx.cell (p := ⟨wr.heap.size, 0, none⟩) hzl).trans x0, (hx.cell (p := ⟨wr.heap.size, 1, none⟩) hzl).trans x1, (hx.cell (p := ⟨wr.heap.size, 2, none⟩) hzl).trans x2, (hx.cell (p := ⟨wr.heap.size, 3, none⟩) hzl).trans x3, (hx.cell (p := ⟨wr.heap.size, 4, none⟩) hzl).trans x4⟩
            clear hK K hHeld
            (try simp only [List.getElem_toArray, List.getElem_cons_zero, List.getElem_cons_succ, Act.put, List.setIfInBounds_toArray, List.set_cons_zero, List.set_cons_succ])
            refine wpAnyH_take (i := 12) (v := ?_) rfl (by kernel_rfl) (by kernel_rfl) (by kernel_rfl) (fun _ _ _ h => h) (Or.inl ⟨by rfl, ?_⟩) (by assumption) ?_
            rotate_left
            · intro w hSw; (try dsimp only at hSw); go_simp; try with_reducible rfl
            (try simp only [List.getElem_toArray, List.getElem_cons_zero, List.getElem_cons_succ, Act.put, List.setIfInBounds_toArray, List.set_cons_zero, List.set_cons_succ])
            refine wpAnyH_take (i := 13) (v := ?_) rfl (by kernel_rfl) (by kernel_rfl) (by kernel_rfl) (fun _ _ _ h => h) (Or.inl ⟨by rfl, ?_⟩) (by assumption) ?_
            rotate_left
            · intro w hSw; (try dsimp only at hSw); go_simp; try with_reducible rfl
            (try simp only [List.getElem_toArray, List.getElem_cons_zero, List.getElem_cons_succ, Act.put, List.setIfInBounds_toArray, List.set_cons_zero, List.set_cons_succ])
            refine wpAnyH_take (i := 14) (v := ?_) rfl (by kernel_rfl) (by kernel_rfl) (by kernel_rfl) (fun _ _ _ h => h) (Or.inl ⟨by rfl, ?_⟩) (by assumption) ?_
            rotate_left
            · intro w hSw; (try dsimp only at hSw); go_simp; try with_reducible rfl
            (try simp only [List.getElem_toArray, List.getElem_cons_zero, List.getElem_cons_succ, Act.put, List.setIfInBounds_toArray, List.set_cons_zero, List.set_cons_succ])
            refine wpAnyH_take (i := 15) (v := ?_) rfl (by kernel_rfl) (by kernel_rfl) (by kernel_rfl) (fun _ _ _ h => h) (Or.inl ⟨by rfl, ?_⟩) (by assumption) ?_
            rotate_left
            · intro w hSw; (try dsimp only at hSw); go_simp; try with_reducible rfl
            (try simp only [List.getElem_toArray, List.getElem_cons_zero, List.getElem_cons_succ, Act.put, List.setIfInBounds_toArray, List.set_cons_zero, List.set_cons_succ])
            refine wpAnyH_take (i := 16) (v := ?_) rfl (by kernel_rfl) (by kernel_rfl) (by kernel_rfl) (fun _ _ _ h => h) (Or.inl ⟨by rfl, ?_⟩) (by assumption) ?_
            rotate_left
            · intro w hSw; (try dsimp only at hSw); go_simp; try with_reducible rfl
            (try simp only [List.getElem_toArray, List.getElem_cons_zero, List.getElem_cons_succ, Act.put, List.setIfInBounds_toArray, List.set_cons_zero, List.set_cons_succ])
            refine wpAnyH_take (i := 17) (v := ?_) rfl (by kernel_rfl) (by kernel_rfl) (by kernel_rfl) (fun _ _ _ h => h) (Or.inl ⟨by rfl, ?_⟩) (by assumption) ?_
            rotate_left
            · intro w hSw; (try dsimp only at hSw); go_simp; try with_reducible rfl
            (try simp only [List.getElem_toArray, List.getElem_cons_zero, List.getElem_cons_succ, Act.put, List.setIfInBounds_toArray, List.set_cons_zero, List.set_cons_succ])
            refine wpAnyH_take (i := 18) (v := ?_) rfl (by kernel_rfl) (by kernel_rfl) (by kernel_rfl) (fun _ _ _ h => h) (Or.inl ⟨by rfl, ?_⟩) (by assumption) ?_
            rotate_left
            · intro w hSw; (try dsimp only at hSw); go_simp; try with_reducible rfl
            (try simp only [List.getElem_toArray, List.getElem_cons_zero, List.getElem_cons_succ, Act.put, List.setIfInBounds_toArray, List.set_cons_zero, List.set_cons_succ])
            refine wpAnyH_take (i := 19) (v := ?_) rfl (by kernel_rfl) (by kernel_rfl) (by kernel_rfl) (fun _ _ _ h => h) (Or.inl ⟨by rfl, ?_⟩) (by assumption) ?_
            rotate_left
            · intro w hSw; (try dsimp only at hSw); go_simp; try with_reducible rfl
            (try simp only [List.getElem_toArray, List.getElem_cons_zero, List.getElem_cons_succ, Act.put, List.setIfInBounds_toArray, List.set_cons_zero, List.set_cons_succ])
            refine wpAnyH_take (i := 20) (v := ?_) rfl (by kernel_rfl) (by kernel_rfl) (by kernel_rfl) (fun _ _ _ h => h) (Or.inl ⟨by rfl, ?_⟩) (by assumption) ?_
            rotate_left
            · intro w hSw; (try dsimp only at hSw); go_simp; try with_reducible rfl
            (try simp only [List.getElem_toArray, List.getElem_cons_zero, List.getElem_cons_succ, Act.put, List.setIfInBounds_toArray, List.set_cons_zero, List.set_cons_succ])
            refine wpAnyH_take (i := 21) (v := ?_) rfl (by kernel_rfl) (by kernel_rfl) (by kernel_rfl) (fun _ _ _ h => h) (Or.inl ⟨by rfl, ?_⟩) (by assumption) ?_
            rotate_left
            · intro w hSw; (try dsimp only at hSw); go_simp; try with_reducible rfl
            (try simp only [List.getElem_toArray, List.getElem_cons_zero, List.getElem_cons_succ, Act.put, List.setIfInBounds_toArray, List.set_cons_zero, List.set_cons_succ])
            refine wpAnyH_take (i := 22) (v := ?_) rfl (by kernel_rfl) (by kernel_rfl) (by kernel_rfl) (fun _ _ _ h => h) (Or.inl ⟨by rfl, ?_⟩) (by assumption) ?_
            rotate_left
            · intro w hSw; (try dsimp only at hSw); go_simp; try with_reducible rfl
            (try simp only [List.getElem_toArray, List.getElem_cons_zero, List.getElem_cons_succ, Act.put, List.setIfInBounds_toArray, List.set_cons_zero, List.set_cons_succ])
            refine wpAnyH_take (i := 23) (v := ?_) rfl (by kernel_rfl) (by kernel_rfl) (by kernel_rfl) (fun _ _ _ h => h) (Or.inl ⟨by rfl, ?_⟩) (by assumption) ?_
            rotate_left
            · intro w hSw; (try dsimp only at hSw); go_simp; try with_reducible rfl
            (try simp only [List.getElem_toArray, List.getElem_cons_zero, List.getElem_cons_succ, Act.put, List.setIfInBounds_toArray, List.set_cons_zero, List.set_cons_succ])
            refine wpAnyH_done (by kernel_rfl) ?_ _
            all_goals
              obtain ⟨_, _, _, _, _, _, _, _, y0, y1, y2, y3, y4⟩ := hHeld2
              have HX6 := Lib.hid (boxM_below HX1.out hx)
              have HB6 := Lib.hid (HB1.out.trans (hx.mono (Nat.le_trans HB.out.size (by omega))))
              have hsz6 : w.heap.size ≤ w6.heap.size := HB6.out.size
              have hgr := HG.out.1 r List.mem_cons_self
              have hk0 : 0 ≤ x.kids := fits_kids (HQ.out.symm)
              have hen : ∀ w' : World, BoxM w' (w.heap.size + 1) w.heap.size (r :: st) → w.heap.size ≤ w'.heap.size → Calls Try.prog 28 #[.pointer (some ⟨w.heap.size + 1, 0, none⟩), .agg #[.int .u8 x.kind, .int .i64 x.kids, .int .i64 x.word, .int .i64 x.lo, .int .i64 x.hi]] w' fun e w'' => e = .returned (.tuple #[]) ∧ BoxM w'' (w.heap.size + 1) w.heap.size (enterM x (r :: st)) ∧ Below w.heap.size w' w'' := fun w' h hs =>
                enter_more x r st w' (w.heap.size + 1) w.heap.size w.heap.size (by omega) (Nat.le_refl _) hs h (by have := HM.out; omega) (by omega) hgr.2
              have HGN := Lib.hid (good_next (x := x) HG.out hk0 HKX.out)
              have HCN : Hid (chk l [⟨-1, N, 0, 1⟩] = chk (l.drop (k + 1)) ((leaveM (enterM x (r :: st))).map Rm.rw)) := Lib.hid (by
                rw [HC2]
                conv => lhs; rw [List.map_cons, chk, ← HQ.out, decide_eq_true (by have := HKK.out; rw [List.length_drop, HLK.out]; omega)]
                rw [← chk_next HG.out hk0]; rfl)
              have HLN : Hid ((leaveM (enterM x (r :: st))).length ≤ k + 1 + 1) := Lib.hid (by
                have := leave_len (enterM x (r :: st))
                have := HM.out
                simp only [enterM, List.length_cons] at *
                omega)
              have hlen2 : (enterM x (r :: st)).length ≤ 1099511627776 := by have := HM.out; simp only [enterM, List.length_cons]; omega
              clear hx hgr hk0 HC2 HC cb r0 r1 r2 r3 r4 r5 r6 x0 x1 x2 x3 x4
              go_wp2_with (first
                | (go_at_call 28; refine (hen _ HX6.out hsz6).mono ?_; rintro e w7 ⟨rfl, hX7, hB7⟩; have HX7 := Lib.hid hX7; have HB7 := Lib.hid (HB6.out.trans hB7); clear hX7 hB7)
                | (go_at_call 29; refine (leave_any _ _ (w.heap.size + 1) w.heap.size w.heap.size (by omega) HX7.out hlen2).mono ?_; rintro e w8 ⟨rfl, hX8, hB8, _⟩; have HX8 := Lib.hid hX8; have HB8 := Lib.hid (HB7.out.trans hB8); clear hX8 hB8))
              go_roundw
              case rel => exact ⟨k + 1, _, by omega, by go_num, HLN.out, HCN, HX8, HGN, HB8⟩
              case measure => simp [intOf]; omega
    · obtain rfl : k = n := by omega
      have HC2 := HC.out
      rw [List.drop_of_length_le (by rw [HLK.out]; exact Nat.le_refl _)] at HC2
      have HC3 := Lib.hid HC2
      obtain ⟨v, hb, hv, _⟩ := HX.out
      obtain ⟨a0, cap0, rfl⟩ : ∃ a0 cap0, v = .slice a0 st.length cap0 := by
        rcases hv.2 with ⟨h, h1⟩ | ⟨g, cap, cur, h, _⟩
        · exact ⟨none, 0, by rw [h, h1]⟩
        · exact ⟨_, cap, h⟩
      have cb := cell_of_one hb
      clear hv hb HC2
      cases st with
      | nil =>
        go_wp2
        go_ret
        exact ⟨ret_bool (by rw [HC3.out]; rfl), HB.out⟩
      | cons r st =>
        rw [List.length_cons] at cb
        go_wp2
        go_ret
        exact ⟨ret_bool (by rw [HC3.out]; rfl), HB.out⟩
end Go.Proofs.Ytdlpminekojahaa
