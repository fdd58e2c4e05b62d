/-
  Layer 10: contract of tree.Own.
-/
import Derived.Test.YtdlpminekojahaaI
namespace Go.Proofs.Ytdlpminekojahaa
open Go.ChangeShapes Go.WideShapes Go.ChangeAt Go.RowKit

theorem lftK_lftK {l : List Nd} {s t : Int} (ks : List Nat) (h : s ≤ t) : lftK l t (lftK l s ks) = lftK l t ks := by
  induction ks with
  | nil => rfl
  | cons k ks ih =>
    rw [lftK_cons (t := s)]
    by_cases hk : (l.getD k nd0).hi ≤ s
    · rw [if_pos hk, ih, lftK_cons, if_pos (by omega)]
    · rw [if_neg hk]
theorem lftK_mem {l : List Nd} {t : Int} {ks : List Nat} : ∀ k ∈ lftK l t ks, k ∈ ks := fun _ h => (List.dropWhile_suffix _).subset h
theorem kid_own {n : Int} {l : List Nd} (h : treeB n l = true) {i : Nat} (hi : i < l.length) (t : Int) :
    headK l t (lftK l t (kidsN (kidsL l) i)) = (ivs l (kidsN (kidsL l) i)).any (hasT t) := by
  rw [any_lft (tree_srt h hi).1, ← head_ivs, ivs_lft]
theorem tokens_step {t hi : Int} (h : t < hi) : tokensN t hi = t :: tokensN (t + 1) hi := by
  unfold tokensN
  obtain ⟨d, hd⟩ : ∃ d, (hi - t).toNat = d + 1 := ⟨(hi - t).toNat - 1, by omega⟩
  rw [hd, show (hi - (t + 1)).toNat = d by omega, List.range_succ_eq_map, List.map_cons, List.map_map]
  congr 1
  · simp
  · refine List.map_congr_left fun k _ => ?_
    simp only [Function.comp_apply]
    omega
theorem tokens_none {t hi : Int} (h : hi ≤ t) : tokensN t hi = [] := by
  unfold tokensN
  rw [show (hi - t).toNat = 0 by omega]; rfl
def restN (l : List Nd) (i : Nat) (t : Int) : List Int := (tokensN t (l.getD i nd0).hi).filter fun t => !(ivs l (kidsN (kidsL l) i)).any (hasT t)
theorem rest_first (l : List Nd) (i : Nat) : restN l i (l.getD i nd0).lo = ownN l i := rfl
theorem rest_step {l : List Nd} {i : Nat} {t : Int} (h : t < (l.getD i nd0).hi) : restN l i t = (if (ivs l (kidsN (kidsL l) i)).any (hasT t) = true then [] else [t]) ++ restN l i (t + 1) := by
  unfold restN
  rw [tokens_step h, List.filter_cons]
  cases (ivs l (kidsN (kidsL l) i)).any (hasT t) <;> simp
theorem kids_lt {K : List Int} : ∀ {m p e : Nat}, Goes K p m e → ∀ k ∈ kidsFrom K m p, k < K.length := by
  intro m
  induction m with
  | zero => intro p e _ k h; cases h
  | succ m ih =>
    intro p e h k hk
    obtain ⟨g1, g2, g3⟩ := kids_end h
    rcases List.mem_cons.1 hk with rfl | hk
    · exact g3
    · exact ih g2 k hk
theorem boxK_keep {w w' : World} {b : Nat} {ks : List Nat} (h : BoxK w b ks) (hk : ∀ q, q ≤ b → w'.heap[q]? = w.heap[q]?) : BoxK w' b ks := by
  obtain ⟨a, cap, h1, h2, h3⟩ := h
  refine ⟨a, cap, (hk b (Nat.le_refl _)).trans h1, h2, fun j k hj => ?_⟩
  obtain ⟨g, off, e, hg, c⟩ := h3 j k hj
  exact ⟨g, off, e, hg, (World.cell?_of_block (w := w) (hk g (by omega))).trans c⟩
def ownI (l : List Nd) (i : Int) : List Int := if hasN l i = true then ownN l i.toNat else []
set_option maxRecDepth 100000 in
set_option maxHeartbeats 4000000 in
theorem own_no (w : World) (a : Option Addr) (n cap : Nat) (l : List Nd) (hl : Nodes w a n l) (hn : n ≤ 1099511627775) (hK : KidsFit l) (i : Int) (hq : hasN l i = false) :
    Calls Try.prog 16 #[.slice a n cap, .int .i64 i] w fun e w' => (∃ v, e = .returned v ∧ MineI w' w.heap.size v []) ∧ Below w.heap.size w w' := by
  have hB0 : Below w.heap.size w (w.alloc (.cells #[.slice a n cap] 22)) := (Below.refl _ w).alloc (Nat.le_refl _) _
  have hh := has_any _ a n cap l (nodes_below hl hB0) hn hK i
  rw [hq] at hh
  have HB := Lib.hid hB0
  clear hl hq hB0
  go_enter Try.func16, Try.ntmps16
  go_wp2_with (go_at_call 26; refine hh.mono ?_; rintro e w1 ⟨rfl, hB⟩)
  go_ret
  exact ⟨⟨_, rfl, mineI_nil _ _⟩, HB.out.trans (hB.mono (by simp))⟩
set_option maxRecDepth 100000 in
set_option maxHeartbeats 8000000 in
theorem own_yes (w : World) (a : Option Addr) (n cap : Nat) (l : List Nd) (hl : Nodes w a n l) (hn : n ≤ 1099511627775) (hK : KidsFit l) (i : Nat) (hq : hasN l (i : Int) = true) :
    Calls Try.prog 16 #[.slice a n cap, .int .i64 i] w fun e w' => (∃ v, e = .returned v ∧ MineI w' w.heap.size v (ownN l i)) ∧ Below w.heap.size w w' := by
  have hB0 : Below w.heap.size w (w.alloc (.cells #[.slice a n cap] 22)) := (Below.refl _ w).alloc (Nat.le_refl _) _
  have hh := has_any _ a n cap l (nodes_below hl hB0) hn hK i
  rw [hq] at hh
  obtain ⟨i', hi', hk, ht⟩ := has_true hq
  obtain rfl : i = i' := by omega
  have hin : i < n := by rw [← hl.1]; exact hk
  have hsf := self_lo (tree_at ht hk).1
  have hkl : ∀ k ∈ kidsN (kidsL l) i, k < n := by
    rw [tree_kids hk]
    have := kids_lt (tree_goes ht hk).1
    rw [kidsL_len, hl.1] at this
    exact this
  have HKO := Lib.hid (fun t => kid_own ht hk t)
  have HW := Lib.hid (tree_well ht)
  have HKL := Lib.hid hkl
  have HB0 := Lib.hid hB0
  have HH0 := Lib.hid (heap_alloc_new w (.cells #[.slice a n cap] 22))
  have HZ0 : Hid ((w.alloc (.cells #[.slice a n cap] 22)).heap.size = w.heap.size + 1) := Lib.hid (by simp)
  have HL := Lib.hid hl
  have HX := Lib.hid (nodes_some hl hin)
  have HR := Lib.hid (rest_first l i)
  have HRS := Lib.hid (fun t h => rest_step (l := l) (i := i) (t := t) h)
  obtain ⟨g0, o0, rfl, _, _, _, c3, c4⟩ := hl.2 i _ (nodes_some hl hin)
  have hg0 : g0 < w.heap.size := cell_lt c3
  have HC3 := Lib.hid c3
  have HC4 := Lib.hid c4
  clear c3 c4
  clear hl hq hB0 hi' ht hk hkl
  obtain ⟨i0, hi0, hz0, hz1, hz2⟩ := info_parts info3
  have H1 := Lib.hid hi0
  have H2 := Lib.hid hz0
  have H3 := Lib.hid hz1
  have H4 := Lib.hid hz2
  clear hi0 hz0 hz1 hz2
  go_enter Try.func16, Try.ntmps16
  go_wp2_with (first
    | (go_at_call 26; refine hh.mono ?_; rintro e w1 ⟨rfl, hB⟩; have HB1 := Lib.hid (hB.mono (show w.heap.size + 1 ≤ _ by rw [HZ0.out]; exact Nat.le_refl _)); have c1 := cell_of_one ((HB1.out.block w.heap.size (by omega)).trans HH0.out); have HL1 := Lib.hid (nodes_below HL.out (HB0.out.trans (HB1.out.mono (by omega)))); clear hB)
    | (go_at_call 30; refine (tkids_any _ _ n cap l HL1.out hn HW.out i hin).mono ?_; rintro e w2 ⟨⟨v, rfl, hM⟩, hB2⟩; obtain ⟨ka, kc, rfl, hIA, _, hkc⟩ := mineI_ints hM; have HIA := Lib.hid hIA; have HB2 := Lib.hid (HB1.out.trans (hB2.mono (by have := HB1.out.size; rw [HZ0.out] at this; exact this))); have HBW := Lib.hid (HB0.out.trans (HB2.out.mono (by omega))); have c2 := cell_of_one ((HB2.out.block w.heap.size (by omega)).trans HH0.out); have c3 := (HBW.out.cell (p := ⟨g0, o0 + i * 5 + 3, none⟩) hg0).trans HC3.out; have c4 := (HBW.out.cell (p := ⟨g0, o0 + i * 5 + 4, none⟩) hg0).trans HC4.out; have hz2 : w.heap.size < w2.heap.size := (by have := HB2.out.size; rw [HZ0.out] at this; exact this); have hg2 : g0 < w2.heap.size := Nat.lt_trans hg0 hz2; clear hM hB2 hIA c1))
  obtain ⟨lo, hlo⟩ : ∃ x, x = (l.getD i nd0).lo := ⟨_, rfl⟩
  obtain ⟨hi, hhi⟩ : ∃ x, x = (l.getD i nd0).hi := ⟨_, rfl⟩
  rw [← hlo] at c3 hsf
  rw [← hhi] at c4 hsf
  have HLO := Lib.hid hlo
  have HHI := Lib.hid hhi
  have HX0 : Hid (BoxK (w2.alloc (.cells #[.slice ka (natsI (kidsN (kidsL l) i)).length kc] 30)) w2.heap.size (kidsN (kidsL l) i)) := Lib.hid (by
    have hln : (natsI (kidsN (kidsL l) i)).length = (kidsN (kidsL l) i).length := by simp [natsI]
    refine ⟨ka, kc, by rw [← hln]; exact heap_alloc_new _ _, by rw [← hln]; exact hkc, fun j k hj => ?_⟩
    obtain ⟨g, e, c⟩ := HIA.out j (k : Int) (by unfold natsI; rw [List.getElem?_map, hj]; rfl)
    refine ⟨g, 0, e, cell_lt c, ?_⟩
    rw [Nat.zero_add]
    exact (World.cell?_of_block (w := w2) (heap_alloc_old w2 _ (cell_lt c))).trans c)
  have HW3 := Lib.hid (HBW.out.alloc (by omega) (.cells #[.slice ka (natsI (kidsN (kidsL l) i)).length kc] 30))
  have HN3 := Lib.hid ((heap_alloc_old (r := w.heap.size) w2 (.cells #[.slice ka (natsI (kidsN (kidsL l) i)).length kc] 30) hz2).trans ((HB2.out.block w.heap.size (by omega)).trans HH0.out))
  have HZ3 : Hid ((w2.alloc (.cells #[.slice ka (natsI (kidsN (kidsL l) i)).length kc] 30)).heap.size = w2.heap.size + 1) := Lib.hid (by simp)
  generalize w2.alloc (.cells #[.slice ka (natsI (kidsN (kidsL l) i)).length kc] 30) = W3 at HX0 HW3 HN3 HZ3 ⊢
  obtain ⟨b, hb⟩ : ∃ b, b = w2.heap.size := ⟨_, rfl⟩
  rw [← hb] at hz2
  have HBE := Lib.hid hb
  clear hb hlo hhi c2 c3 c4 HIA hkc
  have hbs : w2.heap.size = b := HBE.out.symm
  rw [hbs]
  clear hbs
  go_loopw [7, 8] (fun v t wr => ∃ (x : Int) (xs : List Int) (ks : List Nat), lo ≤ x ∧ x ≤ hi ∧ t = .int .i64 x ∧ (xs.length : Int) ≤ x - lo ∧ Hid (xs ++ restN l i x = ownN l i) ∧ Hid (MineI wr (b + 1) v xs) ∧ Hid (BoxK wr b ks) ∧ Hid (∀ y, x ≤ y → lftK l y ks = lftK l y (kidsN (kidsL l) i)) ∧ Hid (∀ k ∈ ks, k < n) ∧ Hid (Below w.heap.size w wr ∧ wr.heap[w.heap.size]? = some (.cells #[.slice (some ⟨g0, o0, none⟩) n cap] 22 (0, 0)) ∧ b < wr.heap.size)) (fun _ t _ => (hi - intOf t).toNat)
  case atStart => exact ⟨lo, [], kidsN (kidsL l) i, Int.le_refl _, hsf.2.1, by rw [HLO.out]; rfl, by simp, Lib.hid (by rw [HLO.out, HR.out]; rfl), Lib.hid (mineI_nil _ _), by rw [← HBE.out] at HX0; exact HX0, Lib.hid (fun _ _ => rfl), HKL, Lib.hid ⟨HW3.out, HN3.out, by rw [HZ3.out, ← HBE.out]; omega⟩⟩
  case round =>
    obtain ⟨x, xs, ks, hx1, hx2, rfl, hxl, HXR, HM, HX, HLF, HKS, HWW⟩ := hrel
    have c2 := cell_of_one HWW.out.2.1
    have c4 := (HWW.out.1.cell (p := ⟨g0, o0 + i * 5 + 4, none⟩) hg0).trans HC4.out
    rw [← HHI.out] at c4
    by_cases hlt : x < hi
    · have hkid := kid_any x l ks wr b w.heap.size w.heap.size (by omega) (some ⟨g0, o0, none⟩) n cap (by omega) HX.out HKS.out HWW.out.2.1 (nodes_below HL.out HWW.out.1) (fun g off e => by cases e; omega)
      have hk1 : headK l x (lftK l x ks) = (ivs l (kidsN (kidsL l) i)).any (hasT x) := by rw [HLF.out x (Int.le_refl _)]; exact HKO.out x
      have hst := HRS.out x (by rw [← HHI.out]; exact hlt)
      rw [hk1] at hkid
      have HK9 := Lib.hid hkid
      clear hkid hk1
      have HLF2 : Hid (∀ y, x + 1 ≤ y → lftK l y (lftK l x ks) = lftK l y (kidsN (kidsL l) i)) := Lib.hid (fun y hy => by rw [lftK_lftK _ (by omega)]; exact HLF.out y (by omega))
      have HKS2 : Hid (∀ k ∈ lftK l x ks, k < n) := Lib.hid (fun k h => HKS.out k (lftK_mem k h))
      cases hq : (ivs l (kidsN (kidsL l) i)).any (hasT x) with
      | true =>
        rw [hq, if_pos rfl] at hst
        rw [hq] at HK9
        have HXR2 : Hid (xs ++ restN l i (x + 1) = ownN l i) := Lib.hid (by have := HXR.out; rw [hst] at this; exact this)
        clear hst hq
        go_wp2_with (go_at_call 31; refine HK9.out.mono ?_; rintro e w6 ⟨rfl, hX6, hB6, hq6, hz6⟩; have HX6 := Lib.hid hX6; have HQ6 := Lib.hid hq6; have HZ6 := Lib.hid hz6; have HB6 := Lib.hid hB6; clear hX6 hB6 hq6 hz6)
        go_roundw
        case rel => exact ⟨x + 1, xs, lftK l x ks, by omega, by omega, by first | rfl | go_num, by omega, HXR2, Lib.hid (HM.out.kept (row := some b) ⟨HB6.out.os, HB6.out.tape, HB6.out.output, by rw [HZ6.out]; exact Nat.le_refl _, fun k _ hk => HQ6.out k (fun e => hk (by rw [e]))⟩ (.inr (fun e => by have := (HM.out.lt b e).1; omega))), HX6, HLF2, HKS2, Lib.hid ⟨HWW.out.1.trans HB6.out, (HQ6.out _ (by omega)).trans HWW.out.2.1, by rw [HZ6.out]; exact HWW.out.2.2⟩⟩
        case measure => simp [intOf]; omega
      | false =>
        rw [hq, if_neg (by decide)] at hst
        rw [hq] at HK9
        have HXR2 : Hid ((xs ++ [x]) ++ restN l i (x + 1) = ownN l i) := Lib.hid (by have := HXR.out; rw [hst] at this; rw [List.append_assoc]; exact this)
        clear hst hq
        go_wp2_with (first
          | (go_at_call 31; refine HK9.out.mono ?_; rintro e w6 ⟨rfl, hX6, hB6, hq6, hz6⟩; have HX6 := Lib.hid hX6; have HM6 := Lib.hid (HM.out.kept (w' := w6) (row := some b) ⟨hB6.os, hB6.tape, hB6.output, by rw [hz6]; exact Nat.le_refl _, fun k _ hk => hq6 k (fun e => hk (by rw [e]))⟩ (.inr (fun e => by have := (HM.out.lt b e).1; omega))); have HW6 := Lib.hid (And.intro (HWW.out.1.trans hB6) (And.intro ((hq6 w.heap.size (by omega)).trans HWW.out.2.1) (show b < w6.heap.size by rw [hz6]; exact HWW.out.2.2))); clear hX6 hB6 hq6 hz6)
          | (at_builtin; refine wpList_append_own _ rfl _ _ 30 rfl (b + 1) 3 i0 (.int .i64 0) 1 8 Try.underlying30 H1.out H2.out H3.out H4.out rfl (by decide) _ _ _ rfl (HM6.out.alloc _) ⟨_, 0, none⟩ 1 1 [.int .i64 x] rfl rfl ?c1 ?c2 ?c3 ?c4 ?c5 ?_))
        case c1 => exact one_new _ _ _
        case c2 => intro u hu; simp at hu; subst hu; rfl
        case c3 => unfold maxLen; omega
        case c4 => omega
        case c5 => have := HW6.out.2.2; simp; omega
        intro v7 w7 hown7 hg7 _
        have HM7 : Hid (MineI w7 (b + 1) v7 (xs ++ [x])) := Lib.hid (mineI_snoc hown7)
        have hob := fun q hq => (HM6.out.lt q hq).1
        have hB7 : Below (b + 1) w6 w7 := ((Below.refl _ w6).alloc HW6.out.2.2 _).grown hg7 (by have := HW6.out.2.2; simp; omega) hob
        have HX7 := Lib.hid (boxK_keep HX6.out (fun q hq => hB7.block q (by omega)))
        have HW7 := Lib.hid (And.intro (HW6.out.1.trans (hB7.mono (show w.heap.size ≤ b + 1 by omega))) (And.intro ((hB7.block w.heap.size (by omega)).trans HW6.out.2.1) (show b < w7.heap.size by have := hB7.size; have := HW6.out.2.2; omega)))
        clear hown7 hg7 hob hB7
        go_wp2
        go_roundw
        case rel => exact ⟨x + 1, xs ++ [x], lftK l x ks, by omega, by omega, by first | rfl | go_num, by simp; omega, HXR2, HM7, HX7, HLF2, HKS2, HW7⟩
        case measure => simp [intOf]; omega
    · obtain rfl : x = hi := by omega
      have hxe := HXR.out
      have hre : restN l i x = [] := by unfold restN; rw [tokens_none (by rw [← HHI.out]; exact Int.le_refl _)]; rfl
      rw [hre, List.append_nil] at hxe
      have hM := HM.out
      rw [hxe] at hM
      have HM9 := Lib.hid (mineI_mono hM (show w.heap.size ≤ b + 1 by omega))
      clear hxe hre hM
      go_wp2
      go_ret
      exact ⟨⟨_, rfl, HM9.out⟩, HWW.out.1⟩
end Go.Proofs.Ytdlpminekojahaa
