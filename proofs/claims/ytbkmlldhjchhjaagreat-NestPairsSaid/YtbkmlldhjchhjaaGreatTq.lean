/-
  Layer 9: brackets and their partners, plain; contract of nest.read.
-/
import Derived.Test.YtbkmlldhjchhjaaGreatTp
namespace Go.Proofs.YtbkmlldhjchhjaaGreat
open Go.ChangeShapes Go.WideShapes Go.ChangeAt Go.RowKit

def tokAt (S : List (Nat × Nat × Nat)) (t : Nat) : Nat × Nat × Nat := (S[t]?).getD (0, 0, 0)
def sortOf (l : List UInt8) (x : Nat × Nat × Nat) : Int := brk x.1 (textAt l x)
/-- the brackets from a token on: the fault and its place, the partners, how many were open at most -/
def nestGo (l : List UInt8) (S : List (Nat × Nat × Nat)) : List (Nat × Nat × Nat) → Nat → List Nat → Nat → List Int → Int × Int × List Int × Nat
  | [], _, [], most, pr => (0, 0, pr, most)
  | [], _, t :: _, _, _ => (5, ((tokAt S t).2.1 : Int), [], 0)
  | x :: R, i, st, most, pr =>
    if 0 < sortOf l x then (if st.length = 100 then (6, (x.2.1 : Int), [], 0) else nestGo l S R (i + 1) (i :: st) (max most (st.length + 1)) (pr.set i (-1)))
    else if sortOf l x < 0 then
      (match st with
      | [] => (5, (x.2.1 : Int), [], 0)
      | t :: st' => if sortOf l (tokAt S t) + sortOf l x = 0 then nestGo l S R (i + 1) st' most (((pr.set i (-1)).set t (i : Int)).set i (t : Int)) else (5, (x.2.1 : Int), [], 0))
    else nestGo l S R (i + 1) st most (pr.set i (-1))
theorem go_open {l : List UInt8} {S R : List (Nat × Nat × Nat)} {x : Nat × Nat × Nat} {i : Nat} {st : List Nat} {most : Nat} {pr : List Int} (h : 0 < sortOf l x) : nestGo l S (x :: R) i st most pr = if st.length = 100 then (6, (x.2.1 : Int), [], 0) else nestGo l S R (i + 1) (i :: st) (max most (st.length + 1)) (pr.set i (-1)) := by
  conv => lhs; unfold nestGo
  rw [if_pos h]
theorem go_none {l : List UInt8} {S R : List (Nat × Nat × Nat)} {x : Nat × Nat × Nat} {i : Nat} {most : Nat} {pr : List Int} (h : sortOf l x < 0) : nestGo l S (x :: R) i [] most pr = (5, (x.2.1 : Int), [], 0) := by
  conv => lhs; unfold nestGo
  rw [if_neg (by omega), if_pos h]
theorem go_shut {l : List UInt8} {S R : List (Nat × Nat × Nat)} {x : Nat × Nat × Nat} {i t : Nat} {st : List Nat} {most : Nat} {pr : List Int} (h : sortOf l x < 0) : nestGo l S (x :: R) i (t :: st) most pr = if sortOf l (tokAt S t) + sortOf l x = 0 then nestGo l S R (i + 1) st most (((pr.set i (-1)).set t (i : Int)).set i (t : Int)) else (5, (x.2.1 : Int), [], 0) := by
  conv => lhs; unfold nestGo
  rw [if_neg (by omega), if_pos h]
theorem go_other {l : List UInt8} {S R : List (Nat × Nat × Nat)} {x : Nat × Nat × Nat} {i : Nat} {st : List Nat} {most : Nat} {pr : List Int} (h1 : ¬ 0 < sortOf l x) (h2 : ¬ sortOf l x < 0) : nestGo l S (x :: R) i st most pr = nestGo l S R (i + 1) st most (pr.set i (-1)) := by
  conv => lhs; unfold nestGo
  rw [if_neg h1, if_neg h2]
/-- tokens, partners, how many were open at most, the fault -/
def nestAns (l : List UInt8) : List (Nat × Nat × Nat) × List Int × Nat × Int × Int :=
  if (semAns l).2.1 ≠ 0 then ([], [], 0, (semAns l).2.1, (semAns l).2.2)
  else if (nestGo l (semAns l).1 (semAns l).1 0 [] 0 (List.replicate (semAns l).1.length 0)).1 = 0 then
    ((semAns l).1, (nestGo l (semAns l).1 (semAns l).1 0 [] 0 (List.replicate (semAns l).1.length 0)).2.2.1, (nestGo l (semAns l).1 (semAns l).1 0 [] 0 (List.replicate (semAns l).1.length 0)).2.2.2, 0, 0)
  else ([], [], 0, (nestGo l (semAns l).1 (semAns l).1 0 [] 0 (List.replicate (semAns l).1.length 0)).1, (nestGo l (semAns l).1 (semAns l).1 0 [] 0 (List.replicate (semAns l).1.length 0)).2.1)
theorem nest_good {l : List UInt8} {S : List (Nat × Nat × Nat)} {R : Int × Int × List Int × Nat} (h : semAns l = (S, 0, 0)) (hR : nestGo l S S 0 [] 0 (List.replicate S.length 0) = R) : nestAns l = if R.1 = 0 then (S, R.2.2.1, R.2.2.2, 0, 0) else ([], [], 0, R.1, R.2.1) := by
  unfold nestAns
  rw [h, if_neg (show ¬ (0 : Int) ≠ 0 by decide)]
  dsimp only
  rw [hR]
theorem nest_bad {l : List UInt8} {f g : Int} (h : semAns l = ([], f, g)) (hf : f ≠ 0) : nestAns l = ([], [], 0, f, g) := by
  unfold nestAns
  rw [h, if_pos hf]
/-- a slice that reads as numbers -/
def Ints (w : World) (b : Option Addr) (P : List Int) : Prop := ∀ k x, P[k]? = some x → ∃ g, b = some ⟨g, 0, none⟩ ∧ w.cell? ⟨g, k, none⟩ = some (.int .i64 x)
theorem Ints.below {w w' : World} {b : Option Addr} {P : List Int} (h : Ints w b P) (hB : Below w.heap.size w w') : Ints w' b P := by
  intro k x hk
  obtain ⟨g, e, c⟩ := h k x hk
  exact ⟨g, e, (hB.cell (p := ⟨g, _, none⟩) (cell_lt c)).trans c⟩
def ReadOf (B : Nat) (A : List (Nat × Nat × Nat) × List Int × Nat × Int × Int) (e : Ending) (w' : World) : Prop :=
  ∃ a ca b cb, e = .returned (.tuple #[.slice a A.1.length ca, .slice b A.2.1.length cb, .int .i64 (A.2.2.1 : Int), .agg #[.int .i64 A.2.2.2.1, .int .i64 A.2.2.2.2]]) ∧ Toks w' a A.1 ∧ Ints w' b A.2.1 ∧ A.1.length ≤ 1048576 ∧ A.2.1.length = A.1.length ∧ ∀ ad, b = some ad → B ≤ ad.block
theorem results_tmp3_row {fn : Func} {p u v x : Tmp} {ty : TypeId} {P : Program} (h : fn.results = #[.tmp u, .tmp v, .tmp x, .cell p ty]) (tmps : Array Value) (w : World) (g : Nat) (cs : Array Value) (e1 e2 e3 : Value)
    (hp : tmps.getD p undef = .pointer (some ⟨g, 0, none⟩)) (h1 : tmps.getD u undef = e1) (h2 : tmps.getD v undef = e2) (h3 : tmps.getD x undef = e3) (hl : (loadVar ty ⟨g, 0, none⟩).run P w = .ok (.agg cs) w) :
    (results fn tmps).run P w = .ok (.tuple #[e1, e2, e3, .agg cs]) w := by
  have hp' : tmps[p]?.getD undef = .pointer (some ⟨g, 0, none⟩) := by simpa using hp
  have h1' : tmps[u]?.getD undef = e1 := by simpa using h1
  have h2' : tmps[v]?.getD undef = e2 := by simpa using h2
  have h3' : tmps[x]?.getD undef = e3 := by simpa using h3
  simp [results, h, Result.andThen, asAddr, hp', h1', h2', h3', hl]
theorem readOf_fault (B : Nat) (w : World) (e f : Int) (ca : Nat) : ReadOf B ([], [], 0, e, f) (.returned (.tuple #[.slice none 0 0, .slice none 0 ca, .int .i64 0, .agg #[.int .i64 e, .int .i64 f]])) w :=
  ⟨none, 0, none, ca, rfl, fun k x h => by simp at h, fun k x h => by simp at h, by simp, rfl, fun _ h => by cases h⟩
set_option maxRecDepth 100000 in
theorem zero72 (w : World) : (zeroValue 55).run Tryz.prog w = .ok (.agg (Array.replicate 101 (.int .i64 0))) w := by kernel_rfl
theorem zeros : ∃ Z : Array Value, StkC Z [] ∧ ∀ w, (zeroValue 55).run Tryz.prog w = .ok (.agg Z) w := by
  refine ⟨Array.replicate 101 (.int .i64 0), ⟨by simp, by simp, by simp, fun j t h => by simp at h, fun j hj => ⟨0, by simp [hj]⟩⟩, zero72⟩
theorem info3n : (Tryz.prog.info? 3).map (fun i => (i.zero, i.size, i.bytes)) = some (some (.int .i64 0), 1, 8) := by kernel_rfl
theorem made_zero (n : Nat) : madeCells #[.int .i64 0] n = ((List.replicate n (0 : Int)).map (Value.int .i64)).toArray := by
  apply Array.ext
  · simp [size_madeCells]
  · intro i h1 h2
    simp [madeCells, Nat.mod_one]
theorem make_ints (n : Nat) (hn : n ≤ 1048576) : ∃ Z : Array Value, Z = ((List.replicate n (0 : Int)).map (Value.int .i64)).toArray ∧ ∀ u : World, (Instr.makeSlice 31 (.int .i64 (n : Int)) (.int .i64 (n : Int))).run Tryz.prog u = .ok (.slice (some ⟨u.heap.size, 0, none⟩) n n) (u.alloc (.cells Z 3)) := by
  obtain ⟨i0, hi, hz0, hz1, hz2⟩ := info_parts info3n
  refine ⟨_, rfl, fun u => ?_⟩
  rw [← made_zero]
  have h := run_make (P := Tryz.prog) u 31 3 i0 (.int .i64 0) Tryz.underlying31 hi hz0 .i64 .i64 (n : Int) (n : Int) (by omega) (Int.le_refl _) (by rw [hz2]; omega) (by omega)
  simpa [hz1, Value.cells] using h
theorem sems_len (l : List UInt8) : ∀ (T : List (Nat × Nat × Nat)) (o : Option Nat), (sems l o T).length ≤ 2 * T.length + (semiO o).length
  | [], o => by show (semiO o).length ≤ _; omega
  | x :: T, o => by
    unfold sems
    split
    · split
      · rw [List.length_append]
        have := sems_len l T none
        have h0 : (semiO none).length = 0 := rfl
        rw [List.length_cons]; omega
      · have := sems_len l T o
        rw [List.length_cons]; omega
    · rw [List.length_cons, List.length_cons]
      have := sems_len l T (if endsB x.1 (textAt l x) = true then some x.2.2 else none)
      have := semiO_len (if endsB x.1 (textAt l x) = true then some x.2.2 else none)
      omega
set_option maxRecDepth 100000 in
set_option maxHeartbeats 8000000 in
theorem read_bad (s : ByteArray) (w : World) (hM : Mx w) (f g : Int) (hA : semAns s.data.toList = ([], f, g)) (hf : f ≠ 0) :
    Calls Tryz.prog 23 #[.string s] w fun e w' => ReadOf w.heap.size ([], [], 0, f, g) e w' ∧ Below w.heap.size w w' := by
  have HM := Lib.hid (hM.alloc (.cells #[.int .i64 0, .int .i64 0] 26))
  have HB0 := Lib.hid (show Below w.heap.size w (w.alloc (.cells #[.int .i64 0, .int .i64 0] 26)) from (Below.refl _ _).alloc (Nat.le_refl _) _)
  have HH0 := Lib.hid (show (w.alloc (.cells #[.int .i64 0, .int .i64 0] 26)).heap[w.heap.size]? = some (.cells #[.int .i64 0, .int .i64 0] 26) from heap_alloc_new w _)
  have HZ0 := Lib.hid (show (w.alloc (.cells #[.int .i64 0, .int .i64 0] 26)).heap.size = w.heap.size + 1 by simp)
  have h1 := fun w hM => semi_toks s w hM
  rw [hA] at h1
  have hne := fun w => fault_neq f g w
  rw [decide_eq_false hf] at hne
  have hgd := fun u v w => fault_ngd u v #[.int .i64 f, .int .i64 g] #[.int .i64 0, .int .i64 0] w
  clear hA hf hM
  go_enter Tryz.func23, Tryz.ntmps23
  go_wp2_with (first
    | (go_at_call 6; refine (h1 _ HM.out).mono ?_; rintro e w1 ⟨⟨a, ca, rfl, hTa, hLn⟩, hB1⟩; replace hB1 := hB1.mono (show w.heap.size + 1 ≤ _ by rw [HZ0.out]; exact Nat.le_refl _); clear hTa hLn)
    | (refine wpList_store_rowTo rfl 26 (.tmp 7) (.tmp 19) rfl rfl w1.heap.size #[.int .i64 f, .int .i64 g] rfl rfl 26 #[.int .i64 0, .int .i64 0] (heap_alloc_new w1 _) info33 rfl (by simp [Value.oneCell']) ?_; have hX1 := setRow_heap _ w1.heap.size _ #[.int .i64 f, .int .i64 g] _ _ (heap_alloc_new w1 (.cells #[.int .i64 0, .int .i64 0] 26)); have hY1 : Below w1.heap.size w1 _ := below_setRow ((Below.refl _ w1).alloc (Nat.le_refl _) (.cells #[.int .i64 0, .int .i64 0] 26)) (Nat.le_refl _) #[.int .i64 f, .int .i64 g]; have hz1 : w1.heap.size < ((w1.alloc (.cells #[.int .i64 0, .int .i64 0] 26)).setRow w1.heap.size #[.int .i64 f, .int .i64 g]).heap.size := (Array.getElem?_eq_some_iff.1 hX1).1; generalize (w1.alloc (.cells #[.int .i64 0, .int .i64 0] 26)).setRow w1.heap.size #[.int .i64 f, .int .i64 g] = W1 at hX1 hY1 hz1 ⊢; have hBw := hB1.trans (hY1.mono (by have := hB1.size; rw [HZ0.out] at this; exact this)); have a0 := cell_of_row _ _ 0 _ _ _ hX1; have a1 := cell_of_row _ _ 1 _ _ _ hX1; simp only [List.getElem?_toArray, List.getElem?_cons_zero, List.getElem?_cons_succ] at a0 a1; clear hX1 hY1 hB1 hz1))
  go_still_tail 4, (by kernel_rfl)
  change wpList _ _ _ _ _ W1.drew
  have hBx := hBw.drew
  have HR := Lib.hid ((hBx.block w.heap.size (by omega)).trans HH0.out)
  clear a0 a1 hBw
  generalize W1.drew = W2 at hBx HR ⊢
  go_wp2_with (refine wpList_store_rowTo rfl 26 (.tmp 5) (.tmp 23) rfl rfl w.heap.size #[.int .i64 f, .int .i64 g] rfl rfl 26 #[.int .i64 0, .int .i64 0] HR.out info33 rfl (by simp [Value.oneCell']) ?_)
  (try simp only [Exit.inBlock, Exit.then])
  refine bodyPost_ret (v := .tuple #[_, _, _, .agg #[.int .i64 f, .int .i64 g]]) (results_tmp3_row (u := 2) (v := 3) (x := 4) (p := 5) rfl _ _ w.heap.size #[.int .i64 f, .int .i64 g] _ _ _ rfl rfl rfl rfl (run_loadVar_row _ w.heap.size 26 26 #[.int .i64 f, .int .i64 g] (0, 0) _ (setRow_heap _ _ _ _ _ _ HR.out) Tryz.underlying26 rfl info33)) rfl ⟨?_, below_setRow (HB0.out.trans (hBx.mono (by omega))) (Nat.le_refl _) _⟩
  exact readOf_fault _ _ f g _
theorem stk_small {w : World} {bo : Nat} {st : List Nat} (h : Stk w bo st) : st.length ≤ 100 ∧ w.cell? ⟨bo, 100, none⟩ = some (.int .i64 (st.length : Int)) := by
  obtain ⟨cs, hb, h1, h2, h3, _⟩ := h
  exact ⟨h2, (cell_of_row w bo 100 cs 55 (0, 0) hb).trans h3⟩
theorem stk_top {w : World} {bo t : Nat} {st : List Nat} (h : Stk w bo (t :: st)) : w.cell? ⟨bo, st.length, none⟩ = some (.int .i64 (t : Int)) := by
  obtain ⟨cs, hb, h1, h2, h3, h4, _⟩ := h
  exact (cell_of_row w bo st.length cs 55 (0, 0) hb).trans (h4 st.length t (by rw [List.reverse_cons, List.getElem?_append_right (by rw [List.length_reverse]; exact Nat.le_refl _), List.length_reverse, Nat.sub_self]; rfl))
theorem Stk.of {w w' : World} {bo : Nat} {st : List Nat} (h : Stk w bo st) (hb : w'.heap[bo]? = w.heap[bo]?) : Stk w' bo st := by
  obtain ⟨cs, h1, h2⟩ := h
  exact ⟨cs, hb.trans h1, h2⟩
theorem Stk.lt {w : World} {bo : Nat} {st : List Nat} (h : Stk w bo st) : bo < w.heap.size := by
  obtain ⟨cs, h1, _⟩ := h
  exact (Array.getElem?_eq_some_iff.1 h1).1
theorem Prs.lt {w : World} {bp : Nat} {pr : List Int} (h : Prs w bp pr) : bp < w.heap.size := (Array.getElem?_eq_some_iff.1 h).1
theorem fault_ans {l : List UInt8} {S : List (Nat × Nat × Nat)} {R : Int × Int × List Int × Nat} {e f : Int} (h : nestAns l = if R.1 = 0 then (S, R.2.2.1, R.2.2.2, 0, 0) else ([], [], 0, R.1, R.2.1)) (hR : R = (e, f, [], 0)) (he : e ≠ 0) : nestAns l = ([], [], 0, e, f) := by
  rw [h, hR, if_neg he]
theorem toks_setRow {w : World} {q : Nat} {a : Option Addr} {S : List (Nat × Nat × Nat)} {u v : Int} (h : Toks w a S) (hq : w.heap[q]? = some (.cells #[.int .i64 u, .int .i64 v] 26 (0, 0))) (cs : Array Value) : Toks (w.setRow q cs) a S := by
  intro k x hk
  obtain ⟨g, e, c0, c1, c2⟩ := h k x hk
  have hne : g ≠ q := by
    rintro rfl
    have := (cell_of_row w g (k * 3) _ 26 (0, 0) hq).symm.trans c0
    cases k with
    | zero => simp at this
    | succ k => rw [Array.getElem?_eq_none (by simp; omega)] at this; cases this
  have hb := setRow_other w q g cs hne
  refine ⟨g, e, ?_, ?_, ?_⟩
  · exact (World.cell?_of_block (a := ⟨g, k * 3, none⟩) hb).trans c0
  · exact (World.cell?_of_block (a := ⟨g, k * 3 + 1, none⟩) hb).trans c1
  · exact (World.cell?_of_block (a := ⟨g, k * 3 + 2, none⟩) hb).trans c2
theorem prs_ints {w : World} {b : Nat} {pr : List Int} (h : Prs w b pr) : Ints w (some ⟨b, 0, none⟩) pr := fun _ _ hk => ⟨b, rfl, h.cell hk⟩
theorem tokAt_of {S : List (Nat × Nat × Nat)} {t : Nat} {x : Nat × Nat × Nat} (h : S[t]? = some x) : tokAt S t = x := by
  unfold tokAt; rw [h]; rfl
theorem pop_yes (s : ByteArray) (w : World) (bo bp D : Nat) (hD1 : D ≤ bo) (hD2 : D ≤ bp) (hne0 : bo ≠ bp) (a : Option Addr) (ca cb n : Nat) (S : List (Nat × Nat × Nat)) (hS : Toks w a S) (hb : ∀ x ∈ S, x.2.1 ≤ x.2.2 ∧ x.2.2 ≤ s.size)
    (st : List Nat) (t i : Nat) (h : Stk w bo (t :: st)) (pr : List Int) (hp : Prs w bp pr) (hpl : pr.length = n) (hti : t < i) (hin : i < n) (x y : Nat × Nat × Nat) (hx : S[t]? = some x) (hy : S[i]? = some y) (hz : sortOf s.data.toList x + sortOf s.data.toList y = 0) :
    Calls Tryz.prog 32 #[.pointer (some ⟨bo, 0, none⟩), .string s, .slice a n ca, .slice (some ⟨bp, 0, none⟩) n cb, .int .i64 i] w fun e w' =>
      e = .returned (.int .i64 0) ∧ Stk w' bo st ∧ Prs w' bp ((pr.set t i).set i t) ∧ Below D w w' ∧ (∀ b : Nat, b < w.heap.size → b ≠ bo → b ≠ bp → w'.heap[b]? = w.heap[b]?) := by
  refine (pop_any s w bo bp D hD1 hD2 hne0 a ca cb n S hS hb st t i h pr hp hpl hti hin x y hx hy).mono ?_
  rintro e w' ⟨⟨rfl, h1⟩, h2, h3⟩
  have hz' : brk x.1 (textAt s.data.toList x) + brk y.1 (textAt s.data.toList y) = 0 := hz
  exact ⟨by rw [if_pos hz'], (h1 hz').1, (h1 hz').2, h2, h3⟩
theorem pop_no (s : ByteArray) (w : World) (bo bp D : Nat) (hD1 : D ≤ bo) (hD2 : D ≤ bp) (hne0 : bo ≠ bp) (a : Option Addr) (ca cb n : Nat) (S : List (Nat × Nat × Nat)) (hS : Toks w a S) (hb : ∀ x ∈ S, x.2.1 ≤ x.2.2 ∧ x.2.2 ≤ s.size)
    (st : List Nat) (t i : Nat) (h : Stk w bo (t :: st)) (pr : List Int) (hp : Prs w bp pr) (hpl : pr.length = n) (hti : t < i) (hin : i < n) (x y : Nat × Nat × Nat) (hx : S[t]? = some x) (hy : S[i]? = some y) (hz : ¬ sortOf s.data.toList x + sortOf s.data.toList y = 0) :
    Calls Tryz.prog 32 #[.pointer (some ⟨bo, 0, none⟩), .string s, .slice a n ca, .slice (some ⟨bp, 0, none⟩) n cb, .int .i64 i] w fun e w' =>
      e = .returned (.int .i64 5) ∧ Below D w w' ∧ (∀ b : Nat, b < w.heap.size → b ≠ bo → b ≠ bp → w'.heap[b]? = w.heap[b]?) := by
  refine (pop_any s w bo bp D hD1 hD2 hne0 a ca cb n S hS hb st t i h pr hp hpl hti hin x y hx hy).mono ?_
  rintro e w' ⟨⟨rfl, _⟩, h2, h3⟩
  have hz' : ¬ brk x.1 (textAt s.data.toList x) + brk y.1 (textAt s.data.toList y) = 0 := hz
  exact ⟨by rw [if_neg hz'], h2, h3⟩
set_option maxRecDepth 100000 in
set_option maxHeartbeats 16000000 in
theorem read_good (s : ByteArray) (w : World) (hM : Mx w) (S : List (Nat × Nat × Nat)) (hA : semAns s.data.toList = (S, 0, 0)) (hn0 : S.length ≤ 1048576) (hSb : ∀ x ∈ S, x.2.1 ≤ x.2.2 ∧ x.2.2 ≤ s.size) :
    Calls Tryz.prog 23 #[.string s] w fun e w' => ReadOf w.heap.size (nestAns s.data.toList) e w' ∧ Below w.heap.size w w' := by
  obtain ⟨R, hR⟩ : ∃ R, R = nestGo s.data.toList S S 0 [] 0 (List.replicate S.length 0) := ⟨_, rfl⟩
  have HANS := Lib.hid (nest_good hA hR.symm)
  have HM := Lib.hid (hM.alloc (.cells #[.int .i64 0, .int .i64 0] 26))
  have HB0 := Lib.hid (show Below w.heap.size w (w.alloc (.cells #[.int .i64 0, .int .i64 0] 26)) from (Below.refl _ _).alloc (Nat.le_refl _) _)
  have HH0 := Lib.hid (show (w.alloc (.cells #[.int .i64 0, .int .i64 0] 26)).heap[w.heap.size]? = some (.cells #[.int .i64 0, .int .i64 0] 26) from heap_alloc_new w _)
  have HZ0 := Lib.hid (show (w.alloc (.cells #[.int .i64 0, .int .i64 0] 26)).heap.size = w.heap.size + 1 by simp)
  have h1 := fun w hM => semi_toks s w hM
  rw [hA] at h1
  obtain ⟨n, hn⟩ : ∃ n, n = S.length := ⟨_, rfl⟩
  dsimp only at h1
  rw [← hn] at h1 hR hn0
  obtain ⟨Zn, hZn, hmk⟩ := make_ints n hn0
  obtain ⟨Zs, hZs, hz72⟩ := zeros
  have hne := fun w => fault_neq 0 0 w
  rw [show (!(decide ((0 : Int) = 0) && decide ((0 : Int) = 0))) = false from rfl] at hne
  have hgd := fun u v w => fault_ngd u v #[.int .i64 0, .int .i64 0] #[.int .i64 0, .int .i64 0] w
  have HN := Lib.hid hn
  have HSB := Lib.hid hSb
  have HRR := Lib.hid hR.symm
  have HZN := Lib.hid hZn
  have HZS := Lib.hid hZs
  clear hA hn hM hSb hR hZn hZs
  go_enter Tryz.func23, Tryz.ntmps23
  go_wp2_with (first
    | (go_at_call 6; refine (h1 _ HM.out).mono ?_; rintro e w1 ⟨⟨a, ca, rfl, hTa, hLn⟩, hB1⟩; replace hB1 := hB1.mono (show w.heap.size + 1 ≤ _ by rw [HZ0.out]; exact Nat.le_refl _); have HTA := Lib.hid hTa; clear hTa hLn)
    | (refine wpList_store_rowTo rfl 26 (.tmp 7) (.tmp 19) rfl rfl w1.heap.size #[.int .i64 0, .int .i64 0] rfl rfl 26 #[.int .i64 0, .int .i64 0] (heap_alloc_new w1 _) info33 rfl (by simp [Value.oneCell']) ?_; have hX1 := setRow_heap _ w1.heap.size _ #[.int .i64 0, .int .i64 0] _ _ (heap_alloc_new w1 (.cells #[.int .i64 0, .int .i64 0] 26)); have hY1 : Below w1.heap.size w1 _ := below_setRow ((Below.refl _ w1).alloc (Nat.le_refl _) (.cells #[.int .i64 0, .int .i64 0] 26)) (Nat.le_refl _) #[.int .i64 0, .int .i64 0]; have hz1 : w1.heap.size < ((w1.alloc (.cells #[.int .i64 0, .int .i64 0] 26)).setRow w1.heap.size #[.int .i64 0, .int .i64 0]).heap.size := (Array.getElem?_eq_some_iff.1 hX1).1; generalize (w1.alloc (.cells #[.int .i64 0, .int .i64 0] 26)).setRow w1.heap.size #[.int .i64 0, .int .i64 0] = W1 at hX1 hY1 hz1 ⊢; have hBw := hB1.trans (hY1.mono (by have := hB1.size; rw [HZ0.out] at this; exact this)); have a0 := cell_of_row _ _ 0 _ _ _ hX1; have a1 := cell_of_row _ _ 1 _ _ _ hX1; simp only [List.getElem?_toArray, List.getElem?_cons_zero, List.getElem?_cons_succ] at a0 a1; replace HTA := Lib.hid (HTA.out.below hY1); clear hX1 hY1 hB1 hz1))
  clear a0 a1 hne hgd h1 hmk hz72
  obtain ⟨b, hb⟩ : ∃ b, b = W1.heap.size := ⟨_, rfl⟩
  have hwb : w.heap.size < b := by have := hBw.size; rw [HZ0.out] at this; omega
  have HP0 : Hid (Prs ((W1.alloc (.cells Zn 3)).alloc (.cells Zs 55)) b (List.replicate n 0)) := by
    refine Lib.hid ?_
    unfold Prs
    rw [← HZN.out, hb]; exact (Below.heap_alloc _ _ _ (by simp)).trans (heap_alloc_new W1 _)
  have HS0 : Hid (Stk ((W1.alloc (.cells Zn 3)).alloc (.cells Zs 55)) (b + 1) []) := by
    refine Lib.hid ⟨Zs, ?_, HZS.out⟩
    have := heap_alloc_new (W1.alloc (.cells Zn 3)) (.cells Zs 55)
    rw [show (W1.alloc (.cells Zn 3)).heap.size = b + 1 by rw [hb]; simp] at this
    exact this
  have HBl0 : Hid (Below b W1 ((W1.alloc (.cells Zn 3)).alloc (.cells Zs 55))) := Lib.hid (((Below.refl b W1).alloc (by omega) _).alloc (by simp; omega) _)
  rw [← hb]
  have HBQ := Lib.hid hb
  have HBW := Lib.hid hBw
  clear hb hBw
  go_loopw [10, 29] (fun mv iv wr => ∃ (i most : Nat) (st : List Nat) (pr : List Int), i ≤ n ∧ most ≤ 100 ∧ mv = .int .i64 most ∧ iv = .int .i64 i ∧ pr.length = n ∧ Hid (∀ t ∈ st, t < i) ∧ Hid (Stk wr (b + 1) st) ∧ Hid (Prs wr b pr) ∧ Hid (Below b W1 wr) ∧ Hid (nestGo s.data.toList S (S.drop i) i st most pr = R)) (fun _ iv _ => n - (intOf iv).toNat)
  case atStart => exact ⟨0, 0, [], List.replicate n 0, by omega, by omega, rfl, rfl, by simp, Lib.hid (fun t h => by cases h), HS0, HP0, HBl0, HRR⟩
  case round =>
    clear HP0 HS0 HBl0
    obtain ⟨i, most, st, pr, hi, hmost, rfl, rfl, hpl, HST, HSK, HPR, HBL, HGO⟩ := hrel
    have hbz := HBL.out.size
    rw [← HBQ.out] at hbz
    by_cases hlt : i < n
    · have j1 : (i : Int) < n := by omega
      have j0 : (0 : Int) ≤ i := by omega
      have hkl : i < S.length := by rw [← HN.out]; exact hlt
      obtain ⟨x, hx⟩ : ∃ x, S[i]? = some x := ⟨S[i]'hkl, List.getElem?_eq_getElem hkl⟩
      have hd : S.drop i = x :: S.drop (i + 1) := by rw [List.drop_eq_getElem_cons hkl, (List.getElem?_eq_some_iff.1 hx).2]
      have hgo := HGO.out
      rw [hd] at hgo
      obtain ⟨b1, b2⟩ := HSB.out _ (List.mem_of_getElem? hx)
      obtain ⟨k, hk⟩ : ∃ k, k = sortOf s.data.toList x := ⟨_, rfl⟩
      obtain ⟨K, p, z⟩ := x
      obtain ⟨g, rfl, c0, c1, c2⟩ := (HTA.out.below (by rw [← HBQ.out]; exact HBL.out)) i _ hx
      dsimp only at b1 b2 c0 c1 c2
      have hbk := fun w => bracket_any s K p z b1 b2 w
      have hk' : brk K (textAt s.data.toList (K, p, z)) = k := hk.symm
      rw [hk'] at hbk
      have gpi := HPR.out.cell (k := i) (List.getElem?_eq_getElem (by omega))
      have fpi := row_free HPR.out i
      have hblt := HPR.out.lt
      have hblt2 := HSK.out.lt
      have hbn : ¬ b = wr.heap.size := by omega
      have hbn' : ¬ wr.heap.size = b := by omega
      have HX := Lib.hid hx
      have HK := Lib.hid hk
      have HGO2 := Lib.hid hgo
      clear hd hx hk hk' hgo hkl HGO
      by_cases hpos : 0 < k
      · have k1 : (0 : Int) < k := hpos
        have hgo := HGO2.out
        rw [go_open (by rw [← HK.out]; exact hpos)] at hgo
        by_cases hfull : st.length = 100
        · rw [if_pos hfull] at hgo
          have HF := Lib.hid (fault_ans HANS.out hgo.symm (by decide))
          have hmx : max (most : Int) 100 = 100 := by omega
          clear hgo HGO2 hpos
          go_wp2_with (first
            | (go_at_call 30; refine (hbk _).mono ?_; rintro e w2 ⟨rfl, hB2⟩; have hsz2 := hB2.size; have hA2 : Below b wr w2 := (((Below.refl b wr).setCell (p := ⟨b, i, none⟩) (Nat.le_refl _) (.int .i64 (-1))).alloc (by simp; omega) _).trans (hB2.mono (by simp; omega)); have HPR2 := Lib.hid (show Prs w2 b (pr.set i (-1)) from (hB2.block b (by simp; omega)).trans ((Below.heap_alloc _ _ _ (by simp; omega)).trans (HPR.out.set i (-1)))); have HSK2 := Lib.hid (show Stk w2 (b + 1) _ from HSK.out.of ((hB2.block (b + 1) (by simp; omega)).trans ((Below.heap_alloc _ _ _ (by simp; omega)).trans (Below.heap_setCell _ _ _ _ (by show b + 1 ≠ b; omega))))); have hr2 : w2.heap[wr.heap.size]? = some (.cells #[.int .u8 K, .int .i64 p, .int .i64 z] 40 (0, 0)) := (hB2.block wr.heap.size (by simp)).trans (by have h := heap_alloc_new (wr.setCell ⟨b, i, none⟩ (.int .i64 (-1))) (.cells #[.int .u8 K, .int .i64 p, .int .i64 z] 40); rw [show (wr.setCell ⟨b, i, none⟩ (.int .i64 (-1))).heap.size = wr.heap.size by simp] at h; exact h); have d1 := cell_of_row _ _ 1 _ _ _ hr2; simp only [List.getElem?_toArray, List.getElem?_cons_zero, List.getElem?_cons_succ] at d1; have HRB := Lib.hid hr2; have HBL2 := Lib.hid (HBL.out.trans hA2); have hz2 := hA2.size; have g100 : w2.cell? ⟨b + 1, 100, none⟩ = some (.int .i64 100) := (stk_small HSK2.out).2.trans (by rw [hfull]; rfl); clear hB2 hr2 hA2)
            | (go_at_call 31; refine (push_full _ (b + 1) st HSK2.out hfull _).mono ?_; rintro e w3 ⟨rfl, rfl⟩))
          go_still_tail 7, (by kernel_rfl)
          change wpList _ _ _ _ _ w2.drew
          have hBx := (HBW.out.trans (HBL2.out.mono (by omega))).drew
          have HR := Lib.hid ((hBx.block w.heap.size (by omega)).trans HH0.out)
          generalize w2.drew = WQ at hBx HR ⊢
          go_wp2_with (refine wpList_store_rowTo rfl 26 (.tmp 5) (.tmp 62) rfl rfl w.heap.size #[.int .i64 6, .int .i64 p] rfl rfl 26 #[.int .i64 0, .int .i64 0] HR.out info33 rfl (by simp [Value.oneCell']) ?_)
          (try simp only [Exit.inBlock, Exit.then])
          refine bodyPost_ret (v := .tuple #[_, _, _, .agg #[.int .i64 6, .int .i64 p]]) (results_tmp3_row (u := 2) (v := 3) (x := 4) (p := 5) rfl _ _ w.heap.size #[.int .i64 6, .int .i64 p] _ _ _ rfl rfl rfl rfl (run_loadVar_row _ w.heap.size 26 26 #[.int .i64 6, .int .i64 p] (0, 0) _ (setRow_heap _ _ _ _ _ _ HR.out) Tryz.underlying26 rfl info33)) rfl ⟨?_, below_setRow (HB0.out.trans (hBx.mono (by omega))) (Nat.le_refl _) _⟩
          rw [HF.out]
          exact readOf_fault _ _ 6 p _
        · rw [if_neg hfull] at hgo
          obtain ⟨MX, hMX⟩ : ∃ MX, MX = max most (st.length + 1) := ⟨_, rfl⟩
          rw [← hMX] at hgo
          have hs100 := (stk_small HSK.out).1
          have hl100 : st.length < 100 := by omega
          have hmx : max (most : Int) ((st.length : Int) + 1) = (MX : Int) := by omega
          have hMX100 : MX ≤ 100 := by omega
          have HGO3 := Lib.hid hgo
          clear hgo HGO2 hpos hMX hfull hs100
          go_wp2_with (first
            | (go_at_call 30; refine (hbk _).mono ?_; rintro e w2 ⟨rfl, hB2⟩; have hsz2 := hB2.size; have hA2 : Below b wr w2 := (((Below.refl b wr).setCell (p := ⟨b, i, none⟩) (Nat.le_refl _) (.int .i64 (-1))).alloc (by simp; omega) _).trans (hB2.mono (by simp; omega)); have HPR2 := Lib.hid (show Prs w2 b (pr.set i (-1)) from (hB2.block b (by simp; omega)).trans ((Below.heap_alloc _ _ _ (by simp; omega)).trans (HPR.out.set i (-1)))); have HSK2 := Lib.hid (show Stk w2 (b + 1) _ from HSK.out.of ((hB2.block (b + 1) (by simp; omega)).trans ((Below.heap_alloc _ _ _ (by simp; omega)).trans (Below.heap_setCell _ _ _ _ (by show b + 1 ≠ b; omega))))); have hr2 : w2.heap[wr.heap.size]? = some (.cells #[.int .u8 K, .int .i64 p, .int .i64 z] 40 (0, 0)) := (hB2.block wr.heap.size (by simp)).trans (by have h := heap_alloc_new (wr.setCell ⟨b, i, none⟩ (.int .i64 (-1))) (.cells #[.int .u8 K, .int .i64 p, .int .i64 z] 40); rw [show (wr.setCell ⟨b, i, none⟩ (.int .i64 (-1))).heap.size = wr.heap.size by simp] at h; exact h); have d1 := cell_of_row _ _ 1 _ _ _ hr2; simp only [List.getElem?_toArray, List.getElem?_cons_zero, List.getElem?_cons_succ] at d1; have HRB := Lib.hid hr2; have HBL2 := Lib.hid (HBL.out.trans hA2); have hz2 := hA2.size; skip; clear hB2 hr2 hA2)
            | (go_at_call 31; refine (push_any _ (b + 1) b (Nat.le_succ _) st HSK2.out hl100 i).mono ?_; rintro e w3 ⟨rfl, hsk3, hB3, ho3⟩; have g100 : w3.cell? ⟨b + 1, 100, none⟩ = some (.int .i64 ((st.length : Int) + 1)) := (stk_small hsk3).2; have HSK3 := Lib.hid hsk3; have HPR3 := Lib.hid (show Prs w3 b (pr.set i (-1)) from (ho3 b (by omega)).trans HPR2.out); have HBL3 := Lib.hid (HBL2.out.trans hB3); clear hsk3 hB3 ho3))
          go_roundw
          case rel => exact ⟨i + 1, MX, i :: st, pr.set i (-1), by omega, hMX100, rfl, by go_num, by rw [List.length_set]; exact hpl, Lib.hid (fun t ht => by rcases List.mem_cons.1 ht with rfl | ht; omega; have := HST.out t ht; omega), HSK3, HPR3, HBL3, HGO3⟩
          case measure => simp [intOf]; omega
      · have k1 : ¬ (0 : Int) < k := hpos
        by_cases hneg : k < 0
        · have k2 : k < (0 : Int) := hneg
          have hgo := HGO2.out
          cases st with
          | nil =>
            rw [go_none (by rw [← HK.out]; exact hneg)] at hgo
            have HF := Lib.hid (fault_ans HANS.out hgo.symm (by decide))
            clear hgo HGO2 hpos hneg
            go_wp2_with (first
              | (go_at_call 30; refine (hbk _).mono ?_; rintro e w2 ⟨rfl, hB2⟩; have hsz2 := hB2.size; have hA2 : Below b wr w2 := (((Below.refl b wr).setCell (p := ⟨b, i, none⟩) (Nat.le_refl _) (.int .i64 (-1))).alloc (by simp; omega) _).trans (hB2.mono (by simp; omega)); have HPR2 := Lib.hid (show Prs w2 b (pr.set i (-1)) from (hB2.block b (by simp; omega)).trans ((Below.heap_alloc _ _ _ (by simp; omega)).trans (HPR.out.set i (-1)))); have HSK2 := Lib.hid (show Stk w2 (b + 1) _ from HSK.out.of ((hB2.block (b + 1) (by simp; omega)).trans ((Below.heap_alloc _ _ _ (by simp; omega)).trans (Below.heap_setCell _ _ _ _ (by show b + 1 ≠ b; omega))))); have hr2 : w2.heap[wr.heap.size]? = some (.cells #[.int .u8 K, .int .i64 p, .int .i64 z] 40 (0, 0)) := (hB2.block wr.heap.size (by simp)).trans (by have h := heap_alloc_new (wr.setCell ⟨b, i, none⟩ (.int .i64 (-1))) (.cells #[.int .u8 K, .int .i64 p, .int .i64 z] 40); rw [show (wr.setCell ⟨b, i, none⟩ (.int .i64 (-1))).heap.size = wr.heap.size by simp] at h; exact h); have d1 := cell_of_row _ _ 1 _ _ _ hr2; simp only [List.getElem?_toArray, List.getElem?_cons_zero, List.getElem?_cons_succ] at d1; have HRB := Lib.hid hr2; have HBL2 := Lib.hid (HBL.out.trans hA2); have hz2 := hA2.size; skip; clear hB2 hr2 hA2)
              | (go_at_call 32; refine (pop_none s _ (b + 1) HSK2.out _ _ _).mono ?_; rintro e w3 ⟨rfl, rfl⟩))
            go_still_tail 7, (by kernel_rfl)
            change wpList _ _ _ _ _ w2.drew
            have hBx := (HBW.out.trans (HBL2.out.mono (by omega))).drew
            have HR := Lib.hid ((hBx.block w.heap.size (by omega)).trans HH0.out)
            generalize w2.drew = WQ at hBx HR ⊢
            go_wp2_with (refine wpList_store_rowTo rfl 26 (.tmp 5) (.tmp 62) rfl rfl w.heap.size #[.int .i64 5, .int .i64 p] rfl rfl 26 #[.int .i64 0, .int .i64 0] HR.out info33 rfl (by simp [Value.oneCell']) ?_)
            (try simp only [Exit.inBlock, Exit.then])
            refine bodyPost_ret (v := .tuple #[_, _, _, .agg #[.int .i64 5, .int .i64 p]]) (results_tmp3_row (u := 2) (v := 3) (x := 4) (p := 5) rfl _ _ w.heap.size #[.int .i64 5, .int .i64 p] _ _ _ rfl rfl rfl rfl (run_loadVar_row _ w.heap.size 26 26 #[.int .i64 5, .int .i64 p] (0, 0) _ (setRow_heap _ _ _ _ _ _ HR.out) Tryz.underlying26 rfl info33)) rfl ⟨?_, below_setRow (HB0.out.trans (hBx.mono (by omega))) (Nat.le_refl _) _⟩
            rw [HF.out]
            exact readOf_fault _ _ 5 p _
          | cons t st =>
            have hti := HST.out t (List.mem_cons_self ..)
            have htl : t < S.length := by rw [← HN.out]; omega
            obtain ⟨y, hy⟩ : ∃ y, S[t]? = some y := ⟨S[t]'htl, List.getElem?_eq_getElem htl⟩
            rw [go_shut (by rw [← HK.out]; exact hneg), tokAt_of hy] at hgo
            have HY := Lib.hid hy
            have hpl2 : (pr.set i (-1)).length = n := by rw [List.length_set]; exact hpl
            have HT2 : Hid (∀ w2, Below b wr w2 → Toks w2 (some ⟨g, 0, none⟩) S) := Lib.hid (fun w2 h => HTA.out.below (by rw [← HBQ.out]; exact HBL.out.trans h))
            clear hy htl
            by_cases hz : sortOf s.data.toList y + sortOf s.data.toList (K, p, z) = 0
            · rw [if_pos hz] at hgo
              have HGO3 := Lib.hid hgo
              have HZ := Lib.hid hz
              clear hgo HGO2 hpos hneg hz
              go_wp2_with (first
                | (go_at_call 30; refine (hbk _).mono ?_; rintro e w2 ⟨rfl, hB2⟩; have hsz2 := hB2.size; have hA2 : Below b wr w2 := (((Below.refl b wr).setCell (p := ⟨b, i, none⟩) (Nat.le_refl _) (.int .i64 (-1))).alloc (by simp; omega) _).trans (hB2.mono (by simp; omega)); have HPR2 := Lib.hid (show Prs w2 b (pr.set i (-1)) from (hB2.block b (by simp; omega)).trans ((Below.heap_alloc _ _ _ (by simp; omega)).trans (HPR.out.set i (-1)))); have HSK2 := Lib.hid (show Stk w2 (b + 1) _ from HSK.out.of ((hB2.block (b + 1) (by simp; omega)).trans ((Below.heap_alloc _ _ _ (by simp; omega)).trans (Below.heap_setCell _ _ _ _ (by show b + 1 ≠ b; omega))))); have hr2 : w2.heap[wr.heap.size]? = some (.cells #[.int .u8 K, .int .i64 p, .int .i64 z] 40 (0, 0)) := (hB2.block wr.heap.size (by simp)).trans (by have h := heap_alloc_new (wr.setCell ⟨b, i, none⟩ (.int .i64 (-1))) (.cells #[.int .u8 K, .int .i64 p, .int .i64 z] 40); rw [show (wr.setCell ⟨b, i, none⟩ (.int .i64 (-1))).heap.size = wr.heap.size by simp] at h; exact h); have d1 := cell_of_row _ _ 1 _ _ _ hr2; simp only [List.getElem?_toArray, List.getElem?_cons_zero, List.getElem?_cons_succ] at d1; have HRB := Lib.hid hr2; have HBL2 := Lib.hid (HBL.out.trans hA2); have hz2 := hA2.size; have HT3 := Lib.hid (HT2.out _ hA2); clear hB2 hr2 hA2)
                | (go_at_call 32; refine (pop_yes s _ (b + 1) b b (Nat.le_succ _) (Nat.le_refl _) (by omega) (some ⟨g, 0, none⟩) ca n n S HT3.out HSB.out st t i HSK2.out (pr.set i (-1)) HPR2.out hpl2 hti hlt y (K, p, z) HY.out HX.out HZ.out).mono ?_; rintro e w3 ⟨rfl, hsk3, hpr3, hB3, ho3⟩; have HSK3 := Lib.hid hsk3; have HPR3 := Lib.hid hpr3; have HBL3 := Lib.hid (HBL2.out.trans hB3); clear hsk3 hpr3 hB3 ho3))
              go_roundw
              case rel => exact ⟨i + 1, most, st, ((pr.set i (-1)).set t (i : Int)).set i (t : Int), by omega, hmost, rfl, by go_num, by rw [List.length_set, List.length_set]; exact hpl2, Lib.hid (fun u hu => by have := HST.out u (List.mem_cons_of_mem _ hu); omega), HSK3, HPR3, HBL3, HGO3⟩
              case measure => simp [intOf]; omega
            · rw [if_neg hz] at hgo
              have HF := Lib.hid (fault_ans HANS.out hgo.symm (by decide))
              have HZ := Lib.hid hz
              clear hgo HGO2 hpos hneg hz
              go_wp2_with (first
                | (go_at_call 30; refine (hbk _).mono ?_; rintro e w2 ⟨rfl, hB2⟩; have hsz2 := hB2.size; have hA2 : Below b wr w2 := (((Below.refl b wr).setCell (p := ⟨b, i, none⟩) (Nat.le_refl _) (.int .i64 (-1))).alloc (by simp; omega) _).trans (hB2.mono (by simp; omega)); have HPR2 := Lib.hid (show Prs w2 b (pr.set i (-1)) from (hB2.block b (by simp; omega)).trans ((Below.heap_alloc _ _ _ (by simp; omega)).trans (HPR.out.set i (-1)))); have HSK2 := Lib.hid (show Stk w2 (b + 1) _ from HSK.out.of ((hB2.block (b + 1) (by simp; omega)).trans ((Below.heap_alloc _ _ _ (by simp; omega)).trans (Below.heap_setCell _ _ _ _ (by show b + 1 ≠ b; omega))))); have hr2 : w2.heap[wr.heap.size]? = some (.cells #[.int .u8 K, .int .i64 p, .int .i64 z] 40 (0, 0)) := (hB2.block wr.heap.size (by simp)).trans (by have h := heap_alloc_new (wr.setCell ⟨b, i, none⟩ (.int .i64 (-1))) (.cells #[.int .u8 K, .int .i64 p, .int .i64 z] 40); rw [show (wr.setCell ⟨b, i, none⟩ (.int .i64 (-1))).heap.size = wr.heap.size by simp] at h; exact h); have d1 := cell_of_row _ _ 1 _ _ _ hr2; simp only [List.getElem?_toArray, List.getElem?_cons_zero, List.getElem?_cons_succ] at d1; have HRB := Lib.hid hr2; have HBL2 := Lib.hid (HBL.out.trans hA2); have hz2 := hA2.size; have HT3 := Lib.hid (HT2.out _ hA2); clear hB2 hr2 hA2)
                | (go_at_call 32; refine (pop_no s _ (b + 1) b b (Nat.le_succ _) (Nat.le_refl _) (by omega) (some ⟨g, 0, none⟩) ca n n S HT3.out HSB.out st t i HSK2.out (pr.set i (-1)) HPR2.out hpl2 hti hlt y (K, p, z) HY.out HX.out HZ.out).mono ?_; rintro e w3 ⟨rfl, hB3, ho3⟩; have d1 := cell_of_row _ _ 1 _ _ _ ((ho3 wr.heap.size (Array.getElem?_eq_some_iff.1 HRB.out).1 (by omega) (by omega)).trans HRB.out); simp only [List.getElem?_toArray, List.getElem?_cons_zero, List.getElem?_cons_succ] at d1; have HBL3 := Lib.hid (HBL2.out.trans hB3); clear hB3 ho3))
              go_still_tail 7, (by kernel_rfl)
              change wpList _ _ _ _ _ w3.drew
              have hBx := (HBW.out.trans (HBL3.out.mono (by omega))).drew
              have HR := Lib.hid ((hBx.block w.heap.size (by omega)).trans HH0.out)
              generalize w3.drew = WQ at hBx HR ⊢
              go_wp2_with (refine wpList_store_rowTo rfl 26 (.tmp 5) (.tmp 62) rfl rfl w.heap.size #[.int .i64 5, .int .i64 p] rfl rfl 26 #[.int .i64 0, .int .i64 0] HR.out info33 rfl (by simp [Value.oneCell']) ?_)
              (try simp only [Exit.inBlock, Exit.then])
              refine bodyPost_ret (v := .tuple #[_, _, _, .agg #[.int .i64 5, .int .i64 p]]) (results_tmp3_row (u := 2) (v := 3) (x := 4) (p := 5) rfl _ _ w.heap.size #[.int .i64 5, .int .i64 p] _ _ _ rfl rfl rfl rfl (run_loadVar_row _ w.heap.size 26 26 #[.int .i64 5, .int .i64 p] (0, 0) _ (setRow_heap _ _ _ _ _ _ HR.out) Tryz.underlying26 rfl info33)) rfl ⟨?_, below_setRow (HB0.out.trans (hBx.mono (by omega))) (Nat.le_refl _) _⟩
              rw [HF.out]
              exact readOf_fault _ _ 5 p _
        · have k2 : ¬ k < (0 : Int) := hneg
          have hgo := HGO2.out
          rw [go_other (by rw [← HK.out]; exact hpos) (by rw [← HK.out]; exact hneg)] at hgo
          have HGO3 := Lib.hid hgo
          clear hgo HGO2 hpos hneg
          go_wp2_with (go_at_call 30; refine (hbk _).mono ?_; rintro e w2 ⟨rfl, hB2⟩; have hsz2 := hB2.size; have hA2 : Below b wr w2 := (((Below.refl b wr).setCell (p := ⟨b, i, none⟩) (Nat.le_refl _) (.int .i64 (-1))).alloc (by simp; omega) _).trans (hB2.mono (by simp; omega)); have HPR2 := Lib.hid (show Prs w2 b (pr.set i (-1)) from (hB2.block b (by simp; omega)).trans ((Below.heap_alloc _ _ _ (by simp; omega)).trans (HPR.out.set i (-1)))); have HSK2 := Lib.hid (show Stk w2 (b + 1) _ from HSK.out.of ((hB2.block (b + 1) (by simp; omega)).trans ((Below.heap_alloc _ _ _ (by simp; omega)).trans (Below.heap_setCell _ _ _ _ (by show b + 1 ≠ b; omega))))); have hr2 : w2.heap[wr.heap.size]? = some (.cells #[.int .u8 K, .int .i64 p, .int .i64 z] 40 (0, 0)) := (hB2.block wr.heap.size (by simp)).trans (by have h := heap_alloc_new (wr.setCell ⟨b, i, none⟩ (.int .i64 (-1))) (.cells #[.int .u8 K, .int .i64 p, .int .i64 z] 40); rw [show (wr.setCell ⟨b, i, none⟩ (.int .i64 (-1))).heap.size = wr.heap.size by simp] at h; exact h); have d1 := cell_of_row _ _ 1 _ _ _ hr2; simp only [List.getElem?_toArray, List.getElem?_cons_zero, List.getElem?_cons_succ] at d1; have HRB := Lib.hid hr2; have HBL2 := Lib.hid (HBL.out.trans hA2); have hz2 := hA2.size; skip; clear hB2 hr2 hA2)
          go_roundw
          case rel => exact ⟨i + 1, most, st, pr.set i (-1), by omega, hmost, rfl, by go_num, by rw [List.length_set]; exact hpl, Lib.hid (fun t ht => by have := HST.out t ht; omega), HSK2, HPR2, HBL2, HGO3⟩
          case measure => simp [intOf]; omega
    · obtain rfl : i = n := by omega
      have hgo := HGO.out
      rw [HN.out, List.drop_length] at hgo
      have g100 := (stk_small HSK.out).2
      have hs100 := (stk_small HSK.out).1
      cases st with
      | nil =>
        have hRe : R = (0, 0, pr, most) := hgo.symm
        have HF := Lib.hid (show nestAns s.data.toList = (S, pr, most, 0, 0) by rw [HANS.out, hRe, if_pos rfl])
        have g100 : wr.cell? ⟨b + 1, 100, none⟩ = some (.int .i64 0) := g100
        have hBx := HBW.out.trans (HBL.out.mono (by omega))
        have HR := Lib.hid ((hBx.block w.heap.size (by omega)).trans HH0.out)
        clear hgo hRe
        go_wp2_with (refine wpList_store_rowTo rfl 26 (.tmp 5) (.tmp 81) rfl rfl w.heap.size #[.int .i64 0, .int .i64 0] rfl rfl 26 #[.int .i64 0, .int .i64 0] HR.out info33 rfl (by simp [Value.oneCell']) ?_)
        (try simp only [Exit.inBlock, Exit.then])
        refine bodyPost_ret (v := .tuple #[_, _, _, .agg #[.int .i64 0, .int .i64 0]]) (results_tmp3_row (u := 2) (v := 3) (x := 4) (p := 5) rfl _ _ w.heap.size #[.int .i64 0, .int .i64 0] _ _ _ rfl rfl rfl rfl (run_loadVar_row _ w.heap.size 26 26 #[.int .i64 0, .int .i64 0] (0, 0) _ (setRow_heap _ _ _ _ _ _ HR.out) Tryz.underlying26 rfl info33)) rfl ⟨?_, below_setRow (HB0.out.trans (hBx.mono (by omega))) (Nat.le_refl _) _⟩
        rw [HF.out]
        refine ⟨a, ca, some ⟨b, 0, none⟩, i, ?_, toks_setRow (HTA.out.below (by rw [← HBQ.out]; exact HBL.out)) HR.out _, ?_, by rw [← HN.out]; exact hn0, by rw [← HN.out]; exact hpl, fun ad h => by have : (⟨b, 0, none⟩ : Addr) = ad := (by injection h); rw [← this]; exact Nat.le_of_lt hwb⟩
        · dsimp only
          rw [hpl, ← HN.out]
          rfl
        · refine prs_ints ?_
          unfold Prs
          rw [setRow_other _ _ _ _ (by omega)]; exact HPR.out
      | cons t st =>
        have hti := HST.out t (List.mem_cons_self ..)
        have htl : t < S.length := by rw [← HN.out]; omega
        obtain ⟨⟨J, P, Q⟩, hy⟩ : ∃ y, S[t]? = some y := ⟨S[t]'htl, List.getElem?_eq_getElem htl⟩
        have hRe : R = (5, (P : Int), [], 0) := by rw [← hgo]; show (5, ((tokAt S t).2.1 : Int), ([] : List Int), 0) = _; rw [tokAt_of hy]
        have HF := Lib.hid (fault_ans HANS.out hRe (by decide))
        obtain ⟨g, rfl, c0, c1, c2⟩ := (HTA.out.below (by rw [← HBQ.out]; exact HBL.out)) t _ hy
        dsimp only at c0 c1 c2
        have ct := stk_top HSK.out
        obtain ⟨m, hm⟩ : ∃ m, m = st.length := ⟨_, rfl⟩
        rw [List.length_cons] at g100 hs100
        rw [← hm] at g100 hs100 ct
        have g100 : wr.cell? ⟨b + 1, 100, none⟩ = some (.int .i64 ((m : Int) + 1)) := g100
        have q0 : (0 : Int) < (m : Int) + 1 := by omega
        have w1' : IntKind.i64.wrap ((m : Int) + 1 - 1) = (m : Int) := by rw [IntKind.wrap_i64]; omega
        have w2' : IntKind.i64.wrap (m : Int) = (m : Int) := by rw [IntKind.wrap_i64]; omega
        have j1 : (m : Int) < 100 := by omega
        have j0 : (0 : Int) ≤ m := by omega
        have jt : (t : Int) < i := by omega
        have jt0 : (0 : Int) ≤ t := by omega
        clear hgo hRe hy htl hm
        go_wp2
        go_still_tail 14, (by kernel_rfl)
        change wpList _ _ _ _ _ wr.drew
        have hBx := (HBW.out.trans (HBL.out.mono (by omega))).drew
        have HR := Lib.hid ((hBx.block w.heap.size (by omega)).trans HH0.out)
        generalize wr.drew = WQ at hBx HR ⊢
        go_wp2_with (refine wpList_store_rowTo rfl 26 (.tmp 5) (.tmp 77) rfl rfl w.heap.size #[.int .i64 5, .int .i64 P] rfl rfl 26 #[.int .i64 0, .int .i64 0] HR.out info33 rfl (by simp [Value.oneCell']) ?_)
        (try simp only [Exit.inBlock, Exit.then])
        refine bodyPost_ret (v := .tuple #[_, _, _, .agg #[.int .i64 5, .int .i64 P]]) (results_tmp3_row (u := 2) (v := 3) (x := 4) (p := 5) rfl _ _ w.heap.size #[.int .i64 5, .int .i64 P] _ _ _ rfl rfl rfl rfl (run_loadVar_row _ w.heap.size 26 26 #[.int .i64 5, .int .i64 P] (0, 0) _ (setRow_heap _ _ _ _ _ _ HR.out) Tryz.underlying26 rfl info33)) rfl ⟨?_, below_setRow (HB0.out.trans (hBx.mono (by omega))) (Nat.le_refl _) _⟩
        rw [HF.out]
        exact readOf_fault _ _ 5 P _
end Go.Proofs.YtbkmlldhjchhjaaGreat
