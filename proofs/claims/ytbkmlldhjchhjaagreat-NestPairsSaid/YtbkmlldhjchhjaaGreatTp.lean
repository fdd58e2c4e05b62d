/-
  Layer 9: brackets; the open brackets in memory; contracts of nest.bracket, push and pop.
-/
import Derived.Test.YtbkmlldhjchhjaaGreatTj
namespace Go.Proofs.YtbkmlldhjchhjaaGreat
open Go.ChangeShapes Go.WideShapes Go.ChangeAt Go.RowKit

/-- the sort of a bracket -/
def brk (k : Nat) (x : List UInt8) : Int :=
  if k ≠ 8 then 0 else if x = [40] then 1 else if x = [91] then 2 else if x = [123] then 3 else if x = [41] then -1 else if x = [93] then -2 else if x = [125] then -3 else 0
theorem brk_bd (k : Nat) (x : List UInt8) : -3 ≤ brk k x ∧ brk k x ≤ 3 := by
  unfold brk
  repeat' split
  all_goals omega
theorem ret_i64 {a b : Int} (h : a = b) : Ending.returned (.int .i64 a) = .returned (.int .i64 b) := by rw [h]
set_option maxHeartbeats 4000000 in
theorem bracket_any (s : ByteArray) (K p z : Nat) (h1 : p ≤ z) (h2 : z ≤ s.size) (w : World) :
    Calls Tryz.prog 30 #[.string s, .agg #[.int .u8 K, .int .i64 p, .int .i64 z]] w fun e w' => e = .returned (.int .i64 (brk K (textAt s.data.toList (K, p, z)))) ∧ Below w.heap.size w w' := by
  have HB := Lib.hid (show Below w.heap.size w (w.alloc (.cells #[.int .u8 K, .int .i64 p, .int .i64 z] 40)) from (Below.refl _ _).alloc (Nat.le_refl _) _)
  have hsl := fun w => slice_str s p z h1 h2 w
  obtain ⟨X, hX⟩ : ∃ X, X = s.extract p z := ⟨_, rfl⟩
  have hXl : textAt s.data.toList (K, p, z) = X.data.toList := by rw [hX, Num.extract_take]; rfl
  rw [← hX] at hsl
  rw [hXl]
  clear hX hXl
  by_cases hK : K = 8
  · subst hK
    go_enter Tryz.func30, Tryz.ntmps30
    go_wp2
    all_goals
      go_ret
      refine ⟨ret_i64 ?_, HB.out⟩
      rw [← ByteArray.toList_eq]
      unfold brk
      simp_all
  · have k8 : ((K : Int) != 8) = true := by simp; omega
    have hb : brk K X.data.toList = 0 := by unfold brk; rw [if_pos hK]
    rw [hb]
    clear hK hb
    go_enter Tryz.func30, Tryz.ntmps30
    go_wp2
    go_ret
    exact ⟨rfl, HB.out⟩
/-- the open brackets, as they lie in memory (the last one first) -/
def StkC (cs : Array Value) (st : List Nat) : Prop :=
  cs.size = 101 ∧ st.length ≤ 100 ∧ cs[100]? = some (Value.int .i64 (st.length : Int)) ∧ (∀ (j t : Nat), st.reverse[j]? = some t → cs[j]? = some (Value.int .i64 (t : Int))) ∧ ∀ j : Nat, j < 101 → ∃ z : Int, cs[j]? = some (Value.int .i64 z)
def Stk (w : World) (bo : Nat) (st : List Nat) : Prop := ∃ cs, w.heap[bo]? = some (.cells cs 55 (0, 0)) ∧ StkC cs st
def Prs (w : World) (bp : Nat) (pr : List Int) : Prop := w.heap[bp]? = some (.cells (pr.map (Value.int .i64)).toArray 3 (0, 0))
theorem map_set (pr : List Int) (k : Nat) (x : Int) : ((pr.map (Value.int .i64)).toArray : Array Value).setIfInBounds k (Value.int .i64 x) = ((pr.set k x).map (Value.int .i64)).toArray := by
  rw [List.map_set]; simp
theorem Prs.set {w : World} {bp : Nat} {pr : List Int} (h : Prs w bp pr) (k : Nat) (x : Int) : Prs (w.setCell ⟨bp, k, none⟩ (.int .i64 x)) bp (pr.set k x) := by
  unfold Prs
  rw [heap_setCell_same w bp k _ 3 _ h, map_set]
theorem Prs.cell {w : World} {bp : Nat} {pr : List Int} (h : Prs w bp pr) {k : Nat} {x : Int} (hk : pr[k]? = some x) : w.cell? ⟨bp, k, none⟩ = some (.int .i64 x) := by
  rw [cell_of_row w bp k _ 3 (0, 0) h]; simp [hk]
theorem row_free {w : World} {b : Nat} {cs : Array Value} {t : TypeId} (h : w.heap[b]? = some (.cells cs t (0, 0))) (k : Nat) : w.frozen? ⟨b, k, none⟩ = false := by
  unfold World.frozen?; simp [h]
theorem stk_push {cs : Array Value} {st : List Nat} (h : StkC cs st) (hl : st.length < 100) (i : Nat) : StkC ((cs.setIfInBounds st.length (Value.int .i64 (i : Int))).setIfInBounds 100 (Value.int .i64 ((st.length : Int) + 1))) (i :: st) := by
  obtain ⟨h1, h2, h3, h4, h5⟩ := h
  refine ⟨by simp [h1], by simp; omega, ?_, fun j t hj => ?_, fun j hj => ?_⟩
  · rw [Array.getElem?_setIfInBounds, if_pos rfl, if_pos (by rw [Array.size_setIfInBounds]; omega), List.length_cons]
    congr 2
  · rw [List.reverse_cons] at hj
    by_cases he : j < st.reverse.length
    · rw [List.getElem?_append_left he] at hj
      have hj2 := h4 j t hj
      rw [List.length_reverse] at he
      rw [Array.getElem?_setIfInBounds, if_neg (by omega), Array.getElem?_setIfInBounds, if_neg (by omega)]
      exact hj2
    · rw [List.getElem?_append_right (by omega)] at hj
      have hz : j - st.reverse.length = 0 := by
        have := (List.getElem?_eq_some_iff.1 hj).1
        rw [List.length_singleton] at this; omega
      rw [hz] at hj
      have ht : i = t := by simpa using hj
      subst ht
      rw [List.length_reverse] at he hz
      have hj3 : j = st.length := by omega
      subst hj3
      rw [Array.getElem?_setIfInBounds, if_neg (by omega), Array.getElem?_setIfInBounds, if_pos rfl, if_pos (by omega)]
  · rw [Array.getElem?_setIfInBounds]
    by_cases he : 100 = j
    · rw [if_pos he, if_pos (by rw [Array.size_setIfInBounds]; omega)]; exact ⟨_, rfl⟩
    · rw [if_neg he, Array.getElem?_setIfInBounds]
      by_cases hf : st.length = j
      · rw [if_pos hf, if_pos (by omega)]; exact ⟨_, rfl⟩
      · rw [if_neg hf]; exact h5 j hj
theorem stk_pop {cs : Array Value} {st : List Nat} {t : Nat} (h : StkC cs (t :: st)) : StkC (cs.setIfInBounds 100 (Value.int .i64 (st.length : Int))) st := by
  obtain ⟨h1, h2, h3, h4, h5⟩ := h
  rw [List.length_cons] at h2
  refine ⟨by simp [h1], by omega, ?_, fun j t' hj => ?_, fun j hj => ?_⟩
  · rw [Array.getElem?_setIfInBounds, if_pos rfl, if_pos (by omega)]
  · have hl := (List.getElem?_eq_some_iff.1 hj).1
    rw [List.length_reverse] at hl
    rw [Array.getElem?_setIfInBounds, if_neg (by omega)]
    refine h4 j t' ?_
    rw [List.reverse_cons, List.getElem?_append_left (by rw [List.length_reverse]; exact hl)]; exact hj
  · rw [Array.getElem?_setIfInBounds]
    by_cases he : 100 = j
    · rw [if_pos he, if_pos (by omega)]; exact ⟨_, rfl⟩
    · rw [if_neg he]; exact h5 j hj
set_option maxRecDepth 100000 in
set_option maxHeartbeats 4000000 in
theorem push_full (w : World) (bo : Nat) (st : List Nat) (h : Stk w bo st) (hl : st.length = 100) (i : Int) :
    Calls Tryz.prog 31 #[.pointer (some ⟨bo, 0, none⟩), .int .i64 i] w fun e w' => e = .returned (.int .i64 6) ∧ w = w' := by
  obtain ⟨cs, hb, h1, h2, h3, h4, h5⟩ := h
  have c := (cell_of_row w bo 100 cs 55 (0, 0) hb).trans h3
  rw [hl] at c
  clear hb h1 h2 h3 h4 h5 hl
  go_enter Tryz.func31, Tryz.ntmps31
  go_wp2
  go_ret
  exact ⟨rfl, rfl⟩
set_option maxRecDepth 100000 in
set_option maxHeartbeats 4000000 in
theorem push_any (w : World) (bo D : Nat) (hD : D ≤ bo) (st : List Nat) (h : Stk w bo st) (hl : st.length < 100) (i : Nat) :
    Calls Tryz.prog 31 #[.pointer (some ⟨bo, 0, none⟩), .int .i64 i] w fun e w' => e = .returned (.int .i64 0) ∧ Stk w' bo (i :: st) ∧ Below D w w' ∧ ∀ b : Nat, b ≠ bo → w'.heap[b]? = w.heap[b]? := by
  obtain ⟨cs, hb, hst⟩ := h
  have hst' := hst
  obtain ⟨h1, h2, h3, h4, h5⟩ := hst
  have c100 := (cell_of_row w bo 100 cs 55 (0, 0) hb).trans h3
  obtain ⟨z, hz⟩ := h5 st.length (by omega)
  obtain ⟨m, hm⟩ : ∃ m, m = st.length := ⟨_, rfl⟩
  have HP := Lib.hid (stk_push hst' hl i)
  rw [← hm] at c100 hz hl HP
  have cm := (cell_of_row w bo m cs 55 (0, 0) hb).trans hz
  have fm := row_free hb m
  have f100 := row_free hb 100
  have k1 : ((m : Int) == 100) = false := int_not (b := 100) (by omega)
  have hne : ¬ m = 100 := by omega
  have hne' : ¬ 100 = m := by omega
  have j1 : (m : Int) < 100 := by omega
  have j0 : (0 : Int) ≤ m := by omega
  have HB := Lib.hid hb
  clear hst' h1 h2 h3 h4 h5 hz hm hb
  go_enter Tryz.func31, Tryz.ntmps31
  go_wp2
  go_still_tail 9, (by kernel_rfl)
  change wpList _ _ _ _ _ w.drew
  have HBD : Hid (w.drew.heap[bo]? = _) := Lib.hid HB.out
  have HLD := Lib.hid ((Below.refl D w).drew)
  have HSM : Hid (∀ b : Nat, w.drew.heap[b]? = w.heap[b]?) := Lib.hid (fun _ => rfl)
  have c100' : w.drew.cell? ⟨bo, 100, none⟩ = _ := c100
  have cm' : w.drew.cell? ⟨bo, m, none⟩ = _ := cm
  have fm' : w.drew.frozen? ⟨bo, m, none⟩ = false := fm
  have f100' : w.drew.frozen? ⟨bo, 100, none⟩ = false := f100
  clear c100 cm fm f100
  generalize w.drew = wq at HBD HLD HSM c100' cm' fm' f100' ⊢
  go_wp2
  go_ret
  refine ⟨rfl, ⟨_, ?_, HP.out⟩, (HLD.out.setCell (p := ⟨bo, m, none⟩) hD _).setCell (p := ⟨bo, 100, none⟩) hD _, fun b hne => ?_⟩
  · exact heap_setCell_same _ bo 100 _ 55 _ (heap_setCell_same _ bo m _ 55 _ HBD.out)
  · rw [Below.heap_setCell _ _ _ _ hne, Below.heap_setCell _ _ _ _ hne]; exact HSM.out b
set_option maxRecDepth 100000 in
set_option maxHeartbeats 4000000 in
theorem pop_none (s : ByteArray) (w : World) (bo : Nat) (h : Stk w bo []) (v1 v2 : Value) (i : Int) :
    Calls Tryz.prog 32 #[.pointer (some ⟨bo, 0, none⟩), .string s, v1, v2, .int .i64 i] w fun e w' => e = .returned (.int .i64 5) ∧ w = w' := by
  obtain ⟨cs, hb, h1, h2, h3, h4, h5⟩ := h
  have c : w.cell? ⟨bo, 100, none⟩ = some (.int .i64 0) := (cell_of_row w bo 100 cs 55 (0, 0) hb).trans h3
  clear hb h1 h2 h3 h4 h5
  go_enter Tryz.func32, Tryz.ntmps32
  go_wp2
  go_ret
  exact ⟨rfl, rfl⟩
set_option maxRecDepth 100000 in
set_option maxHeartbeats 8000000 in
theorem pop_any (s : ByteArray) (w : World) (bo bp D : Nat) (hD1 : D ≤ bo) (hD2 : D ≤ bp) (hne0 : bo ≠ bp) (a : Option Addr) (ca cb n : Nat) (S : List (Nat × Nat × Nat)) (hS : Toks w a S) (hb : ∀ x ∈ S, x.2.1 ≤ x.2.2 ∧ x.2.2 ≤ s.size)
    (st : List Nat) (t i : Nat) (h : Stk w bo (t :: st)) (pr : List Int) (hp : Prs w bp pr) (hpl : pr.length = n) (hti : t < i) (hin : i < n) (x y : Nat × Nat × Nat) (hx : S[t]? = some x) (hy : S[i]? = some y) :
    Calls Tryz.prog 32 #[.pointer (some ⟨bo, 0, none⟩), .string s, .slice a n ca, .slice (some ⟨bp, 0, none⟩) n cb, .int .i64 i] w fun e w' =>
      (e = .returned (.int .i64 (if brk x.1 (textAt s.data.toList x) + brk y.1 (textAt s.data.toList y) = 0 then 0 else 5)) ∧
      (brk x.1 (textAt s.data.toList x) + brk y.1 (textAt s.data.toList y) = 0 → Stk w' bo st ∧ Prs w' bp ((pr.set t i).set i t))) ∧ Below D w w' ∧ (∀ b : Nat, b < w.heap.size → b ≠ bo → b ≠ bp → w'.heap[b]? = w.heap[b]?) := by
  obtain ⟨cs, hbo, hst⟩ := h
  have hst' := hst
  obtain ⟨h1, h2, h3, h4, h5⟩ := hst
  obtain ⟨m, hm⟩ : ∃ m, m = st.length := ⟨_, rfl⟩
  rw [List.length_cons] at h2 h3
  have hct := h4 st.length t (by rw [List.reverse_cons, List.getElem?_append_right (by rw [List.length_reverse]; exact Nat.le_refl _), List.length_reverse, Nat.sub_self]; rfl)
  have HP := Lib.hid (stk_pop hst')
  rw [← hm] at h2 h3 hct HP
  have c100 : w.cell? ⟨bo, 100, none⟩ = some (.int .i64 ((m : Int) + 1)) := (cell_of_row w bo 100 cs 55 (0, 0) hbo).trans h3
  have cm := (cell_of_row w bo m cs 55 (0, 0) hbo).trans hct
  obtain ⟨K, p, z⟩ := x
  obtain ⟨J, q, r⟩ := y
  obtain ⟨b1, b2⟩ := hb _ (List.mem_of_getElem? hx)
  obtain ⟨b3, b4⟩ := hb _ (List.mem_of_getElem? hy)
  dsimp only at b1 b2 b3 b4
  obtain ⟨g, rfl, c0, c1, c2⟩ := hS t _ hx
  obtain ⟨g', hg', e0, e1, e2⟩ := hS i _ hy
  have hg' : g = g' := by injection hg' with hg'; injection hg'
  subst hg'
  dsimp only at c0 c1 c2 e0 e1 e2
  have hk1 := fun w => bracket_any s K p z b1 b2 w
  have hk2 := fun w => bracket_any s J q r b3 b4 w
  dsimp only
  obtain ⟨k1, hk1e⟩ : ∃ k, k = brk K (textAt s.data.toList (K, p, z)) := ⟨_, rfl⟩
  obtain ⟨k2, hk2e⟩ : ∃ k, k = brk J (textAt s.data.toList (J, q, r)) := ⟨_, rfl⟩
  have hbd := brk_bd J (textAt s.data.toList (J, q, r))
  have hbd1 := brk_bd K (textAt s.data.toList (K, p, z))
  rw [← hk1e] at hk1 hbd1 ⊢
  rw [← hk2e] at hk2 hbd ⊢
  have HBO := Lib.hid hbo
  have HPR := Lib.hid hp
  have HPL := Lib.hid hpl
  have q1 : ((m : Int) + 1 == 0) = false := by simp; omega
  have w1 : IntKind.i64.wrap ((m : Int) + 1 - 1) = (m : Int) := by rw [IntKind.wrap_i64]; omega
  have w2 : IntKind.i64.wrap (m : Int) = (m : Int) := by rw [IntKind.wrap_i64]; omega
  have w3 : IntKind.i64.wrap (-k2) = -k2 := by rw [IntKind.wrap_i64]; omega
  have j1 : (m : Int) < 100 := by omega
  have j0 : (0 : Int) ≤ m := by omega
  have jt : (t : Int) < n := by omega
  have jt0 : (0 : Int) ≤ t := by omega
  have ji : (i : Int) < n := by omega
  have ji0 : (0 : Int) ≤ i := by omega
  have hgl := cell_lt c0
  clear hst' h1 h2 h3 h4 h5 hm hct hx hy hk1e hk2e hS hb hbo hp hpl
  by_cases hz : k1 + k2 = 0
  · have hnz : (k1 != -k2) = false := by simp; omega
    rw [if_pos hz]
    clear hz
    go_enter Tryz.func32, Tryz.ntmps32
    go_wp2
    go_quiet (fail)
    go_wp2
    go_region_held3 (fun w' => w'.cell? ⟨g, t * 3, none⟩ = some (.int .u8 K) ∧ w'.cell? ⟨g, t * 3 + 1, none⟩ = some (.int .i64 p) ∧ w'.cell? ⟨g, t * 3 + 2, none⟩ = some (.int .i64 z) ∧ w'.cell? ⟨g, i * 3, none⟩ = some (.int .u8 J) ∧ w'.cell? ⟨g, i * 3 + 1, none⟩ = some (.int .i64 q) ∧ w'.cell? ⟨g, i * 3 + 2, none⟩ = some (.int .i64 r)) (go_keep)
      (first
        | (go_at_call 30; (with_reducible refine (hk1 _).mono ?_); rintro e w3 ⟨rfl, hB3⟩; (first | (replace hx := hx.trans (hB3.mono hx.size)) | (have hx : Below w.heap.size w w3 := (below_drewN (Below.refl w.heap.size w) _).drew.trans hB3)); have E0 := (hx.cell (p := ⟨g, t * 3, none⟩) hgl).trans c0; have E1 := (hx.cell (p := ⟨g, t * 3 + 1, none⟩) hgl).trans c1; have E2 := (hx.cell (p := ⟨g, t * 3 + 2, none⟩) hgl).trans c2; have F0 := (hx.cell (p := ⟨g, i * 3, none⟩) hgl).trans e0; have F1 := (hx.cell (p := ⟨g, i * 3 + 1, none⟩) hgl).trans e1; have F2 := (hx.cell (p := ⟨g, i * 3 + 2, none⟩) hgl).trans e2; clear hB3)
        | (go_at_call 30; (with_reducible refine (hk2 _).mono ?_); rintro e w3 ⟨rfl, hB3⟩; (first | (replace hx := hx.trans (hB3.mono hx.size)) | (have hx : Below w.heap.size w w3 := (below_drewN (Below.refl w.heap.size w) _).drew.trans hB3)); have E0 := (hx.cell (p := ⟨g, t * 3, none⟩) hgl).trans c0; have E1 := (hx.cell (p := ⟨g, t * 3 + 1, none⟩) hgl).trans c1; have E2 := (hx.cell (p := ⟨g, t * 3 + 2, none⟩) hgl).trans c2; have F0 := (hx.cell (p := ⟨g, i * 3, none⟩) hgl).trans e0; have F1 := (hx.cell (p := ⟨g, i * 3 + 1, none⟩) hgl).trans e1; have F2 := (hx.cell (p := ⟨g, i * 3 + 2, none⟩) hgl).trans e2; clear hB3))
    all_goals
      have hbo3 := (hx.block bo (Array.getElem?_eq_some_iff.1 HBO.out).1).trans HBO.out
      have hpr3 : Prs w3 bp pr := (hx.block bp (Array.getElem?_eq_some_iff.1 HPR.out).1).trans HPR.out
      have g100 := (hx.cell (p := ⟨bo, 100, none⟩) (cell_lt c100)).trans c100
      have f100 := row_free hbo3 100
      have ft := row_free hpr3 t
      have fi := row_free hpr3 i
      have gt := hpr3.cell (k := t) (List.getElem?_eq_getElem (by rw [HPL.out]; omega))
      have gi := hpr3.cell (k := i) (List.getElem?_eq_getElem (by rw [HPL.out]; omega))
      have HBO3 := Lib.hid hbo3
      have HPR3 := Lib.hid hpr3
      have HX := Lib.hid hx
      have hnb : ¬ bo = bp := hne0
      have hnb' : ¬ bp = bo := fun e => hne0 e.symm
      have hnt : ¬ t = i := by omega
      have hnt' : ¬ i = t := by omega
      clear hbo3 hpr3 hx E0 E1 E2 F0 F1 F2 c0 c1 c2 e0 e1 e2 c100 cm hk1 hk2
      go_wp2
      go_ret
      refine ⟨⟨rfl, fun _ => ⟨⟨_, ?_, HP.out⟩, ?_⟩⟩, ((HX.out.mono (Nat.le_trans hD1 (Nat.le_of_lt (Array.getElem?_eq_some_iff.1 HBO.out).1))).setCell (p := ⟨bo, 100, none⟩) hD1 _ |>.setCell (p := ⟨bp, t, none⟩) hD2 _).setCell (p := ⟨bp, i, none⟩) hD2 _, fun b hb h1 h2 => ?_⟩
      · rw [Below.heap_setCell _ _ _ _ (by show bo ≠ bp; exact hne0), Below.heap_setCell _ _ _ _ (by show bo ≠ bp; exact hne0), heap_setCell_same _ bo 100 _ 55 _ HBO3.out]
      · refine Prs.set (Prs.set ?_ t _) i _
        unfold Prs
        rw [Below.heap_setCell _ _ _ _ (by show bp ≠ bo; exact fun e => hne0 e.symm)]; exact HPR3.out
      · rw [Below.heap_setCell _ _ _ _ h2, Below.heap_setCell _ _ _ _ h2, Below.heap_setCell _ _ _ _ h1]; exact HX.out.block b hb
  · have hnz : (k1 != -k2) = true := by simp; omega
    rw [if_neg hz]
    have HZ := Lib.hid hz
    clear hz
    go_enter Tryz.func32, Tryz.ntmps32
    go_wp2
    go_quiet (fail)
    go_wp2
    go_region_held3 (fun w' => w'.cell? ⟨g, t * 3, none⟩ = some (.int .u8 K) ∧ w'.cell? ⟨g, t * 3 + 1, none⟩ = some (.int .i64 p) ∧ w'.cell? ⟨g, t * 3 + 2, none⟩ = some (.int .i64 z) ∧ w'.cell? ⟨g, i * 3, none⟩ = some (.int .u8 J) ∧ w'.cell? ⟨g, i * 3 + 1, none⟩ = some (.int .i64 q) ∧ w'.cell? ⟨g, i * 3 + 2, none⟩ = some (.int .i64 r)) (go_keep)
      (first
        | (go_at_call 30; (with_reducible refine (hk1 _).mono ?_); rintro e w3 ⟨rfl, hB3⟩; (first | (replace hx := hx.trans (hB3.mono hx.size)) | (have hx : Below w.heap.size w w3 := (below_drewN (Below.refl w.heap.size w) _).drew.trans hB3)); have E0 := (hx.cell (p := ⟨g, t * 3, none⟩) hgl).trans c0; have E1 := (hx.cell (p := ⟨g, t * 3 + 1, none⟩) hgl).trans c1; have E2 := (hx.cell (p := ⟨g, t * 3 + 2, none⟩) hgl).trans c2; have F0 := (hx.cell (p := ⟨g, i * 3, none⟩) hgl).trans e0; have F1 := (hx.cell (p := ⟨g, i * 3 + 1, none⟩) hgl).trans e1; have F2 := (hx.cell (p := ⟨g, i * 3 + 2, none⟩) hgl).trans e2; clear hB3)
        | (go_at_call 30; (with_reducible refine (hk2 _).mono ?_); rintro e w3 ⟨rfl, hB3⟩; (first | (replace hx := hx.trans (hB3.mono hx.size)) | (have hx : Below w.heap.size w w3 := (below_drewN (Below.refl w.heap.size w) _).drew.trans hB3)); have E0 := (hx.cell (p := ⟨g, t * 3, none⟩) hgl).trans c0; have E1 := (hx.cell (p := ⟨g, t * 3 + 1, none⟩) hgl).trans c1; have E2 := (hx.cell (p := ⟨g, t * 3 + 2, none⟩) hgl).trans c2; have F0 := (hx.cell (p := ⟨g, i * 3, none⟩) hgl).trans e0; have F1 := (hx.cell (p := ⟨g, i * 3 + 1, none⟩) hgl).trans e1; have F2 := (hx.cell (p := ⟨g, i * 3 + 2, none⟩) hgl).trans e2; clear hB3))
    all_goals
      have HX := Lib.hid hx
      clear hx E0 E1 E2 F0 F1 F2 c0 c1 c2 e0 e1 e2 c100 cm hk1 hk2
      go_wp2
      go_ret
      exact ⟨⟨rfl, fun h => absurd h HZ.out⟩, HX.out.mono (Nat.le_trans hD1 (Nat.le_of_lt (Array.getElem?_eq_some_iff.1 HBO.out).1)), fun b hb _ _ => HX.out.block b hb⟩
end Go.Proofs.YtbkmlldhjchhjaaGreat
