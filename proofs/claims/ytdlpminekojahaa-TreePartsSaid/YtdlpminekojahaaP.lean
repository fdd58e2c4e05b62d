/-
  Layer 10: the document's Tree and Check; the document's example.
-/
import Derived.Test.YtdlpminekojahaaO
import Derived.Great.BuildSlice
namespace Go.Proofs.Ytdlpminekojahaa
open Go.ChangeShapes Go.WideShapes Go.ChangeAt Go.RowKit

set_option maxHeartbeats 4000000 in
theorem rtree_any (N : Int) (w : World) (a : Option Addr) (n cap : Nat) (l : List Nd) (hl : Nodes w a n l) (hn : n ≤ 2000) :
    Calls Try.prog 17 #[.slice a n cap, .int .i64 N] w fun e w' => e = .returned (.bool (treeB N l)) ∧ Below w.heap.size w w' := by
  cases ht : wellB (kidsL l) with
  | true =>
    have hE : treeB N l = refN N n l := by unfold treeB; rw [ht, hl.1]; rfl
    rw [hE]
    exact rtree_yes N w a n cap l hl hn ht
  | false =>
    have hE : treeB N l = false := by unfold treeB; rw [ht]; rfl
    rw [hE]
    have hre := rends_no w a n cap l hl hn ht
    clear hl ht hE
    go_enter Try.func17, Try.ntmps17
    go_wp2_with (go_at_call 32; refine hre.mono ?_; rintro e w1 ⟨rfl, rfl⟩)
    go_ret
    exact ⟨rfl, Below.refl _ _⟩
set_option maxHeartbeats 4000000 in
theorem rcheck_any (N : Int) (w : World) (a : Option Addr) (n cap : Nat) (l : List Nd) (hl : Nodes w a n l) (hn : n ≤ 2000) :
    Calls Try.prog 9 #[.slice a n cap, .int .i64 N] w fun e w' => e = .returned (.int .i64 (checkN N l)) ∧ Below w.heap.size w w' := by
  by_cases h1 : N < 0 ∨ 131072 < N
  · rw [checkN, if_pos h1]
    rcases h1 with h1 | h1
    · go_enter Try.func9, Try.ntmps9
      go_wp2
      go_ret
      exact ⟨rfl, Below.refl _ _⟩
    · have h0 : ¬ N < 0 := by omega
      go_enter Try.func9, Try.ntmps9
      go_wp2
      go_ret
      exact ⟨rfl, Below.refl _ _⟩
  · have h2 : ¬ N < 0 := by omega
    have h3 : ¬ 131072 < N := by omega
    rw [checkN, if_neg h1]
    have ht := rtree_any N w a n cap l hl hn
    cases hq : treeB N l with
    | true =>
      rw [hq] at ht
      clear hl hq h1
      go_enter Try.func9, Try.ntmps9
      go_wp2_with (go_at_call 17; refine ht.mono ?_; rintro e w1 ⟨rfl, hB⟩)
      go_ret
      exact ⟨rfl, hB⟩
    | false =>
      rw [hq] at ht
      clear hl hq h1
      go_enter Try.func9, Try.ntmps9
      go_wp2_with (go_at_call 17; refine ht.mono ?_; rintro e w1 ⟨rfl, hB⟩)
      go_ret
      exact ⟨rfl, hB⟩
/-- the document's example -/
def exL : List Nd := [⟨37, 2, 1, 0, 3⟩, ⟨26, 0, 0, 0, 1⟩, ⟨26, 0, 2, 2, 3⟩]
theorem ex_tree : treeB 131072 exL = true := by decide
theorem ex_c3 : checkN 3 exL = 0 := by decide
theorem ex_c2 : checkN 2 exL = 8 := by decide
theorem ex_e0 : endI exL 0 = 3 := by decide
theorem ex_e1 : endI exL 1 = 2 := by decide
theorem ex_u2 : upI exL 2 = 0 := by decide
theorem ex_o0 : ownI exL 0 = [1] := by decide
theorem ex_v1 : overI exL 1 = 0 := by decide
theorem ex_d : depthI exL = 2 := by
  have c0 : Chain (kidsL exL) (0 : Nat) 1 := .up (by rw [show upN (kidsL exL) 0 = -1 by decide]; exact .top)
  have c1 : Chain (kidsL exL) (1 : Nat) 2 := .up (by rw [show upN (kidsL exL) 1 = ((0 : Nat) : Int) by decide]; exact c0)
  have c2 : Chain (kidsL exL) (2 : Nat) 2 := .up (by rw [show upN (kidsL exL) 2 = ((0 : Nat) : Int) by decide]; exact c0)
  rw [depthI, if_pos ex_tree]
  show ((mostN (kidsL exL) 3 : Nat) : Int) = 2
  simp only [mostN]
  rw [dep_is c0, dep_is c1, dep_is c2]; rfl
theorem ex_fit : KidsFit exL := by
  intro x hx
  simp only [exL, List.mem_cons, List.not_mem_nil, or_false] at hx
  rcases hx with rfl | rfl | rfl <;> decide
def exV : Array Value := #[.int .u8 37, .int .i64 2, .int .i64 1, .int .i64 0, .int .i64 3, .int .u8 26, .int .i64 0, .int .i64 0, .int .i64 0, .int .i64 1, .int .u8 26, .int .i64 0, .int .i64 2, .int .i64 2, .int .i64 3]
theorem ex_nodes (w : World) : Nodes (w.alloc (.cells exV 35)) (some ⟨w.heap.size, 0, none⟩) 3 exL := by
  have hb := heap_alloc_new w (.cells exV 35)
  refine ⟨rfl, fun k x hk => ⟨w.heap.size, 0, rfl, ?_⟩⟩
  have hc := fun j => cell_of_row _ w.heap.size j exV 35 (0, 0) hb
  match k, hk with
  | 0, hk => simp [exL] at hk; subst hk; exact ⟨(hc 0).trans rfl, (hc 1).trans rfl, (hc 2).trans rfl, (hc 3).trans rfl, (hc 4).trans rfl⟩
  | 1, hk => simp [exL] at hk; subst hk; exact ⟨(hc 5).trans rfl, (hc 6).trans rfl, (hc 7).trans rfl, (hc 8).trans rfl, (hc 9).trans rfl⟩
  | 2, hk => simp [exL] at hk; subst hk; exact ⟨(hc 10).trans rfl, (hc 11).trans rfl, (hc 12).trans rfl, (hc 13).trans rfl, (hc 14).trans rfl⟩
  | k + 3, hk => simp [exL] at hk
set_option maxRecDepth 100000 in
set_option maxHeartbeats 8000000 in
theorem fixed_any (w : World) : Calls Try.prog 7 #[] w fun e w' => e = .returned (.bool true) ∧ Below w.heap.size w w' := by
  have f3 := fun w a cap hl => check_any 3 w a 3 cap exL hl (by decide) ex_fit
  have f2 := fun w a cap hl => check_any 2 w a 3 cap exL hl (by decide) ex_fit
  have g0 := fun w a cap hl => End_any w a 3 cap exL hl (by decide) ex_fit 0
  have g1 := fun w a cap hl => End_any w a 3 cap exL hl (by decide) ex_fit 1
  have u2 := fun w a cap hl => Up_any w a 3 cap exL hl (by decide) ex_fit 2
  have o0 := fun w a cap hl => Own_any w a 3 cap exL hl (by decide) ex_fit 0
  have v1 := fun w a cap hl => Over_any w a 3 cap exL hl (by decide) ex_fit 1
  have dd := fun w a cap hl => Depth_any w a 3 cap exL hl (by decide) ex_fit
  rw [ex_c3] at f3
  rw [ex_c2] at f2
  rw [ex_e0] at g0
  rw [ex_e1] at g1
  rw [ex_u2] at u2
  rw [ex_o0] at o0
  rw [ex_v1] at v1
  rw [ex_d] at dd
  have HN := Lib.hid (ex_nodes w)
  have HB := Lib.hid ((Below.refl _ w).alloc (Nat.le_refl _) (.cells exV 35))
  go_enter Try.func7, Try.ntmps7
  go_wp2_with fail
  refine (f3 _ _ _ HN.out).mono ?_
  rintro e w1 ⟨rfl, hB⟩
  have HN1 := Lib.hid (nodes_below HN.out hB)
  have HB1 := Lib.hid (HB.out.trans (hB.mono HB.out.size))
  clear hB
  go_wp2_with fail
  refine (f2 _ _ _ HN1.out).mono ?_
  rintro e w2 ⟨rfl, hB⟩
  have HN2 := Lib.hid (nodes_below HN1.out hB)
  have HB2 := Lib.hid (HB1.out.trans (hB.mono HB1.out.size))
  clear hB
  go_wp2_with fail
  refine (g0 _ _ _ HN2.out).mono ?_
  rintro e w3 ⟨rfl, hB⟩
  have HN3 := Lib.hid (nodes_below HN2.out hB)
  have HB3 := Lib.hid (HB2.out.trans (hB.mono HB2.out.size))
  clear hB
  go_wp2_with fail
  refine (g1 _ _ _ HN3.out).mono ?_
  rintro e w4 ⟨rfl, hB⟩
  have HN4 := Lib.hid (nodes_below HN3.out hB)
  have HB4 := Lib.hid (HB3.out.trans (hB.mono HB3.out.size))
  clear hB
  go_wp2_with fail
  refine (u2 _ _ _ HN4.out).mono ?_
  rintro e w5 ⟨rfl, hB⟩
  have HN5 := Lib.hid (nodes_below HN4.out hB)
  have HB5 := Lib.hid (HB4.out.trans (hB.mono HB4.out.size))
  clear hB
  go_wp2_with fail
  refine (o0 _ _ _ HN5.out).mono ?_
  rintro e w6 ⟨⟨v, rfl, hM⟩, hB⟩
  obtain ⟨a6, cap6, rfl, hI6, _, _⟩ := mineI_ints hM
  have HI6 := Lib.hid (hI6.below ((Below.refl _ w6).alloc (Nat.le_refl _) (.cells #[.int .i64 1] 3)))
  have HJ6 : Hid (IntsAt (w6.alloc (.cells #[.int .i64 1] 3)) (some ⟨w6.heap.size, 0, none⟩) [1]) := Lib.hid (fun k x hk => by
    match k, hk with
    | 0, hk => simp at hk; subst hk; exact ⟨_, rfl, cell_of_row _ w6.heap.size 0 #[.int .i64 1] 3 (0, 0) (heap_alloc_new w6 _)⟩
    | k + 1, hk => simp at hk)
  have hB6 := (HB5.out.trans (hB.mono HB5.out.size)).alloc (Nat.le_trans HB5.out.size hB.size) (.cells #[.int .i64 1] 3)
  have HN6 := Lib.hid (nodes_below HN5.out (hB.trans ((Below.refl _ w6).alloc hB.size (.cells #[.int .i64 1] 3))))
  have HB6 := Lib.hid hB6
  clear hM hI6 hB hB6
  rw [show ([1] : List Int).length = 1 from rfl]
  go_wp2_with fail
  refine (ints_any _ a6 (some ⟨w6.heap.size, 0, none⟩) 1 1 cap6 1 [1] [1] HI6.out HJ6.out rfl rfl (by unfold maxLen; omega)).mono ?_
  rintro e w7 ⟨rfl, hB⟩
  have HN7 := Lib.hid (nodes_below HN6.out hB)
  have HB7 := Lib.hid (HB6.out.trans (hB.mono HB6.out.size))
  clear hB
  rw [show decide (([1] : List Int) = [1]) = true from rfl]
  go_wp2_with fail
  refine (v1 _ _ _ HN7.out).mono ?_
  rintro e w8 ⟨rfl, hB⟩
  have HN8 := Lib.hid (nodes_below HN7.out hB)
  have HB8 := Lib.hid (HB7.out.trans (hB.mono HB7.out.size))
  clear hB
  go_wp2_with fail
  refine (dd _ _ _ HN8.out).mono ?_
  rintro e w9 ⟨rfl, hB⟩
  have HB9 := Lib.hid (HB8.out.trans (hB.mono HB8.out.size))
  clear hB
  go_wp2_with fail
  go_ret
  exact ⟨rfl, HB9.out⟩
end Go.Proofs.Ytdlpminekojahaa
