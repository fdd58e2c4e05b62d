/-
  Layer 10: contracts of tree.Own and Depth.
-/
import Derived.Test.YtdlpminekojahaaJ
namespace Go.Proofs.Ytdlpminekojahaa
open Go.ChangeShapes Go.WideShapes Go.ChangeAt Go.RowKit

theorem Own_any (w : World) (a : Option Addr) (n cap : Nat) (l : List Nd) (hl : Nodes w a n l) (hn : n ≤ 1099511627775) (hK : KidsFit l) (i : Int) :
    Calls Try.prog 16 #[.slice a n cap, .int .i64 i] w fun e w' => (∃ v, e = .returned v ∧ MineI w' w.heap.size v (ownI l i)) ∧ Below w.heap.size w w' := by
  cases hq : hasN l i with
  | true =>
    obtain ⟨k, rfl, _, _⟩ := has_true hq
    have hE : ownI l (k : Int) = ownN l k := by rw [ownI, if_pos hq, Int.toNat_natCast]
    rw [hE]
    exact own_yes w a n cap l hl hn hK k hq
  | false =>
    have hE : ownI l i = [] := by rw [ownI, if_neg (by rw [hq]; decide)]
    rw [hE]
    exact own_no w a n cap l hl hn hK i hq
/-- the rows of the stack are nodes of the tree -/
def Pairs (K : List Int) (e : Nat) (st : List Rm) : Prop := ∃ ps, StkAt K e ps ∧ ps.map (·.2) = st.map fun r => r.left.toNat
theorem pairs_len {st : List Rm} {ps : List (Nat × Nat)} (h : ps.map (·.2) = st.map fun r => r.left.toNat) : ps.length = st.length := by
  have := congrArg List.length h
  simpa using this
theorem pairs_leave {K : List Int} (hw : wellB K = true) {e : Nat} : ∀ {st : List Rm}, (∀ r ∈ st, 0 ≤ r.left) → Pairs K e st → Pairs K e (leaveM st) := by
  intro st
  induction st with
  | nil => intro _ h; exact h
  | cons r st ih =>
    rintro hr ⟨ps, h1, h2⟩
    unfold leaveM
    by_cases hz : r.left = 0
    · rw [if_pos hz]
      refine ih (fun x hx => hr x (List.mem_cons_of_mem _ hx)) ?_
      cases ps with
      | nil => simp at h2
      | cons p ps =>
        obtain ⟨j, m⟩ := p
        simp only [List.map_cons, List.cons.injEq] at h2
        have hm : m = 0 := by rw [h2.1, hz]; rfl
        subst hm
        exact ⟨ps, stk_leave hw h1, h2.2⟩
    · rw [if_neg hz]
      exact ⟨ps, h1, h2⟩
theorem pairs_enter {K : List Int} (hw : wellB K = true) {i : Nat} {x : Nd} {r : Rm} {st : List Rm} (hg : Good (r :: st)) (hx : K.getD i 0 = x.kids) (h : Pairs K i (r :: st)) :
    depN K i = st.length + 2 ∧ Pairs K (i + 1) (enterM x (r :: st)) := by
  obtain ⟨ps, h1, h2⟩ := h
  have hr := hg.1 r List.mem_cons_self
  have hz := hg.2 r st rfl
  cases ps with
  | nil => simp at h2
  | cons p ps =>
    obtain ⟨j, m⟩ := p
    simp only [List.map_cons, List.cons.injEq] at h2
    obtain ⟨m', rfl⟩ : ∃ m', m = m' + 1 := ⟨m - 1, by omega⟩
    obtain ⟨_, hc, hs⟩ := stk_enter hw h1
    have hl := pairs_len h2.2
    refine ⟨by rw [dep_is hc, hl], _, hs, ?_⟩
    simp only [enterM, List.map_cons, h2.2, hx]
    congr 2
    omega
theorem pairs_first {K : List Int} (hw : wellB K = true) {x : Nd} (hx : K.getD 0 0 = x.kids) : depN K 0 = 1 ∧ Pairs K 1 (enterM x []) := by
  obtain ⟨_, hc, hs⟩ := stk_first hw
  exact ⟨dep_is hc, _, hs, by simp only [enterM, List.map_cons, List.map_nil, hx]⟩
theorem good_first {x : Nd} (h0 : 0 ≤ x.kids) (h1 : x.kids ≤ 9223372036854775807) : Good (leaveM (enterM x [])) := by
  refine ⟨fun y hy => ?_, fun y s e => leave_top e⟩
  have hm := leave_mem y hy
  simp only [enterM, List.mem_cons] at hm
  rcases hm with rfl | hm
  · exact ⟨h0, h1⟩
  · cases hm
theorem enter_left {x : Nd} {r : Rm} {st : List Rm} (hg : Good (r :: st)) (h0 : 0 ≤ x.kids) : ∀ y ∈ enterM x (r :: st), 0 ≤ y.left := by
  have hr := hg.1 r List.mem_cons_self
  have hz := hg.2 r st rfl
  intro y hy
  simp only [enterM, List.mem_cons] at hy
  rcases hy with rfl | rfl | hy
  · exact h0
  · dsimp only; omega
  · exact (hg.1 y (List.mem_cons_of_mem _ hy)).1
open Classical in
noncomputable def depthI (l : List Nd) : Int := if treeB 131072 l = true then mostN (kidsL l) l.length else 0
theorem stkM_form {w : World} {base : Nat} {v : Value} {st : List Rm} (h : StkM w base v st) : ∃ a cap, v = .slice a st.length cap := by
  rcases h.2 with ⟨h, h1⟩ | ⟨g, cap, cur, h, _⟩
  · exact ⟨none, 0, by rw [h, h1]⟩
  · exact ⟨_, cap, h⟩
set_option maxRecDepth 100000 in
set_option maxHeartbeats 8000000 in
theorem depth_yes (w : World) (a : Option Addr) (n cap : Nat) (l : List Nd) (hl : Nodes w a n l) (hn : n ≤ 1099511627775) (hK : KidsFit l) (hq : treeB 131072 l = true) :
    Calls Try.prog 14 #[.slice a n cap] w fun e w' => e = .returned (.int .i64 (mostN (kidsL l) n)) ∧ Below w.heap.size w w' := by
  have hh := isTree_any 131072 w a n cap l hl hn hK
  rw [hq] at hh
  have hw := tree_well hq
  have HW := Lib.hid hw
  have HT := Lib.hid hq
  have HL := Lib.hid hl
  have HKB := Lib.hid hK
  have HLN := Lib.hid hl.1
  clear hl hq hw hK
  go_enter Try.func14, Try.ntmps14
  go_wp2_with (go_at_call 25; refine hh.mono ?_; rintro e w1 ⟨rfl, hB1⟩; have HL1 := Lib.hid (nodes_below HL.out hB1); have HB1 := Lib.hid hB1; clear hB1)
  obtain ⟨b, hb⟩ : ∃ b, b = w1.heap.size := ⟨_, rfl⟩
  rw [← hb]
  have hwb : w.heap.size ≤ b := by rw [hb]; exact HB1.out.size
  have HBE := Lib.hid hb
  clear hb hh HL
  go_loopw [3, 12] (fun mv t wr => ∃ k : Nat, k ≤ n ∧ t = .int .i64 k ∧ mv = .int .i64 (mostN (kidsL l) k) ∧ Hid (Below b w1 wr) ∧ Hid (b < wr.heap.size) ∧ (k = 0 ∧ Hid (wr.heap[b]? = some (.cells #[.slice none 0 0] 37 (0, 0))) ∨ 0 < k ∧ ∃ st, Hid (BoxM wr b b st) ∧ Hid (Good st) ∧ Hid (Pairs (kidsL l) k st) ∧ st.length ≤ k)) (fun _ t _ => n - (intOf t).toNat)
  case atStart => exact ⟨0, Nat.zero_le _, rfl, rfl, Lib.hid ((Below.refl _ w1).alloc (by rw [HBE.out]; exact Nat.le_refl _) _), Lib.hid (by rw [HBE.out]; simp), .inl ⟨rfl, Lib.hid (by rw [HBE.out]; exact heap_alloc_new _ _)⟩⟩
  case round =>
    obtain ⟨k, hk, rfl, rfl, HB, HS, hcase⟩ := hrel
    by_cases hlt : k < n
    · obtain ⟨x, hx⟩ : ∃ x, l[k]? = some x := ⟨_, nodes_some HL1.out hlt⟩
      have HWR := Lib.hid (HB1.out.trans (HB.out.mono hwb))
      have HN := Lib.hid (nodes_below HL1.out (by have := HB.out; rw [HBE.out] at this; exact this))
      obtain ⟨g0, off, rfl, c0, c1, c2, c3, c4⟩ := HN.out.2 k x hx
      have hxk := HKB.out x (List.mem_of_getElem? hx)
      have hx0 : 0 ≤ x.kids := by
        have := (tree_goes HT.out (i := k) (by rw [HLN.out]; exact hlt)).2.2.2
        rw [List.getD, hx] at this; exact this
      have hgd : (kidsL l).getD k 0 = x.kids := by rw [List.getD, kidsL_at l k x hx]; rfl
      have HXM := Lib.hid (heap_alloc_new wr (.cells (ndV x).toArray 35))
      have HBX := Lib.hid ((Below.refl wr.heap.size wr).alloc (Nat.le_refl _) (.cells (ndV x).toArray 35))
      have x0 := cell_of_row _ _ 0 _ _ _ HXM.out
      have x1 := cell_of_row _ _ 1 _ _ _ HXM.out
      have x2 := cell_of_row _ _ 2 _ _ _ HXM.out
      have x3 := cell_of_row _ _ 3 _ _ _ HXM.out
      have x4 := cell_of_row _ _ 4 _ _ _ HXM.out
      simp only [ndV, List.getElem?_toArray, List.getElem?_cons_zero, List.getElem?_cons_succ] at x0 x1 x2 x3 x4
      have HXX := Lib.hid hx
      clear hx
      have key : ∃ st2 : List Rm, Hid (depN (kidsL l) k = st2.length) ∧ Hid (Pairs (kidsL l) (k + 1) (leaveM st2)) ∧ Hid (Good (leaveM st2)) ∧ st2.length ≤ k + 1 ∧
          Hid (∀ w' : World, Below wr.heap.size wr w' → Calls Try.prog 28 #[.pointer (some ⟨b, 0, none⟩), .agg #[.int .u8 x.kind, .int .i64 x.kids, .int .i64 x.word, .int .i64 x.lo, .int .i64 x.hi]] w' fun e w'' => e = .returned (.tuple #[]) ∧ BoxM w'' b b st2 ∧ Below b w' w'') := by
        rcases hcase with ⟨rfl, H0⟩ | ⟨hk0, st, HX, HG, HP, hst⟩
        · obtain ⟨p1, p2⟩ := pairs_first HW.out hgd
          refine ⟨enterM x [], Lib.hid (by rw [p1]; rfl), Lib.hid (pairs_leave HW.out (fun y hy => ?_) p2), Lib.hid (good_first hx0 hxk), by simp [enterM], Lib.hid (fun w' hB => ?_)⟩
          · simp only [enterM, List.mem_cons] at hy
            rcases hy with rfl | hy
            · exact hx0
            · cases hy
          · exact enter_none x w' b b b (Nat.le_refl _) (by have := HS.out; have := hB.size; omega) ((hB.block b HS.out).trans H0.out)
        · cases st with
          | nil =>
            obtain ⟨ps, h1, h2⟩ := HP.out
            have : ps = [] := by simpa using h2
            exact absurd this (stk_some h1 (by rw [kidsL_len, HLN.out]; exact hlt))
          | cons r st =>
            obtain ⟨p1, p2⟩ := pairs_enter HW.out HG.out hgd HP.out
            have hgr := HG.out.1 r List.mem_cons_self
            rw [List.length_cons] at hst
            refine ⟨enterM x (r :: st), Lib.hid (by rw [p1]; rfl), Lib.hid (pairs_leave HW.out (enter_left HG.out hx0) p2), Lib.hid (good_next HG.out hx0 hxk), by simp [enterM]; omega, Lib.hid (fun w' hB => ?_)⟩
            exact enter_more x r st w' b b b (Nat.le_refl _) (Nat.le_refl _) (by have := HS.out; have := hB.size; omega) (boxM_below HX.out hB) (by omega) (by omega) hgr.2
      obtain ⟨st2, HD, HP2, HG2, hl2, HEN⟩ := key
      have hml := most_le (kidsL l) k
      obtain ⟨M, hM⟩ : ∃ M, M = mostN (kidsL l) k := ⟨_, rfl⟩
      have HMX : Hid (mostN (kidsL l) (k + 1) = max M st2.length) := Lib.hid (by rw [hM, ← HD.out]; rfl)
      rw [← hM] at hml ⊢
      clear hM hcase hgd hx0 hxk
      simp only [ndV] at HXM HBX
      go_wp2_with (first
        | (go_at_call 28; refine (HEN.out _ HBX.out).mono ?_; rintro e w7 ⟨rfl, hX7, hB7⟩; have HX7 := Lib.hid hX7; have HB7 := Lib.hid ((HBX.out.mono (Nat.le_of_lt HS.out)).trans hB7); clear hB7; have hq7 := hX7; obtain ⟨v7, hb7, hv7, _⟩ := hq7; obtain ⟨a7, cap7, rfl⟩ := stkM_form hv7; have cb7 := cell_of_one hb7; clear hb7 hv7 hX7)
        | (go_at_call 29; refine (leave_any st2 _ b b b (Nat.le_refl _) HX7.out (by omega)).mono ?_; rintro e w8 ⟨rfl, hX8, hB8, hz8⟩; have HX8 := Lib.hid hX8; have HB8 := Lib.hid hB8; clear hX8))
      go_roundw
      case rel => exact ⟨k + 1, by omega, by go_num, by rw [HMX.out]; congr 1; omega, Lib.hid (HB.out.trans (HB7.out.trans HB8.out)), Lib.hid (Nat.lt_of_lt_of_le HS.out (Nat.le_trans HB7.out.size HB8.out.size)), .inr ⟨by omega, _, HX8, HG2, HP2, by have := leave_len st2; omega⟩⟩
      case measure => simp [intOf]; omega
    · obtain rfl : k = n := by omega
      go_wp2
      go_ret
      exact ⟨rfl, HB1.out.trans (HB.out.mono hwb)⟩
end Go.Proofs.Ytdlpminekojahaa
