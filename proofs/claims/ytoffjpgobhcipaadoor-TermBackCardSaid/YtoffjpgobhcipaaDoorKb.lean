/-
  Layer 11: the closure of term.Read; lists of parts of a call's own; what is read up to a place (texts Iw Ix Iy Jx Ja).
-/
import Derived.Test.YtoffjpgobhcipaaDoorIr
import Derived.Test.YtoffjpgobhcipaaDoorKa
import Derived.OwnWalk
import Derived.Laws.AppendOwn
import Derived.Test.YtoffjpgobhcipaaDoorHa
import Derived.Test.YtoffjpgobhcipaaDoorHb
namespace Go.Proofs.YtoffjpgobhcipaaDoor.Trm
open Go.ChangeShapes Go.WideShapes Go.ChangeAt Go.RowKit

theorem pre_one (l : List UInt8) (c : UInt8) : Lib.hasPrefix l [c] = decide (l[0]? = some c) := by
  cases l with
  | nil => simp [Lib.hasPrefix]
  | cons d r =>
    by_cases h : d = c
    · subst h; simp [Lib.hasPrefix, List.isPrefixOf]
    · have h2 : ¬ c = d := fun e => h e.symm
      simp [Lib.hasPrefix, List.isPrefixOf, h, h2]
theorem pre_at (s : ByteArray) (k : Nat) (c : UInt8) : Lib.hasPrefix (s.extract k s.size).data.toList (⟨#[c]⟩ : ByteArray).data.toList = decide (s.data.toList[k]? = some c) := by
  rw [show (⟨#[c]⟩ : ByteArray).data.toList = [c] from rfl, pre_one]
  congr 2
  rw [show (s.extract k s.size).data.toList = s.data.toList.drop k by simp [List.take_of_length_le]]
  simp
set_option maxHeartbeats 4000000 in
theorem next_any (s : ByteArray) (hs : s.size ≤ 1048576) (c : UInt8) (k : Nat) (hk : k ≤ s.size) (w : World) (b q : Nat) (c0 : w.cell? ⟨b, 0, none⟩ = some (.string s)) (c1 : w.cell? ⟨q, 0, none⟩ = some (.int .i64 k)) (f1 : w.frozen? ⟨q, 0, none⟩ = false) :
    Calls Tryd.prog 21 #[.string ⟨#[c]⟩, .pointer (some ⟨b, 0, none⟩), .pointer (some ⟨q, 0, none⟩)] w fun e w' => e = .returned (.bool (decide (s.data.toList[k]? = some c))) ∧ w' = if s.data.toList[k]? = some c then w.setCell ⟨q, 0, none⟩ (.int .i64 (k + 1)) else w := by
  have hpre := fun w => Tryd.strings_HasPrefix (s.extract k s.size) ⟨#[c]⟩ w
  rw [pre_at s k c] at hpre
  have j0 : (0 : Int) ≤ k := by omega
  have j1 : (k : Int) ≤ s.size := by omega
  have w1 : IntKind.i64.wrap ((k : Int) + 1) = (k : Int) + 1 := by rw [IntKind.wrap_i64]; omega
  by_cases h : s.data.toList[k]? = some c
  · rw [if_pos h]
    rw [decide_eq_true h] at hpre ⊢
    clear h
    go_enter Tryd.func21, Tryd.ntmps21
    go_wp2_with (go_at_call 22; refine (hpre _).mono ?_; rintro e w2 ⟨rfl, rfl⟩)
    go_ret
    exact ⟨rfl, rfl⟩
  · rw [if_neg h]
    rw [decide_eq_false h] at hpre ⊢
    clear h
    go_enter Tryd.func21, Tryd.ntmps21
    go_wp2_with (go_at_call 22; refine (hpre _).mono ?_; rintro e w2 ⟨rfl, rfl⟩)
    go_ret
    exact ⟨rfl, rfl⟩
end Go.Proofs.YtoffjpgobhcipaaDoor.Trm

namespace Go.Proofs.YtoffjpgobhcipaaDoor.Trm
open Go.ChangeShapes Go.WideShapes Go.ChangeAt Go.RowKit

def cellsP (l : List Pt) : List Value := l.flatMap fun x => [.int .u8 x.kind, .int .i64 x.kids, .string x.word]
theorem cellsP_cons (x : Pt) (l : List Pt) : cellsP (x :: l) = .int .u8 x.kind :: .int .i64 x.kids :: .string x.word :: cellsP l := rfl
theorem cellsP_len : ∀ l, (cellsP l).length = l.length * 3
  | [] => rfl
  | x :: l => by rw [cellsP_cons, List.length_cons, List.length_cons, List.length_cons, cellsP_len l, List.length_cons]; omega
theorem cellsP_app (a b : List Pt) : cellsP (a ++ b) = cellsP a ++ cellsP b := by simp [cellsP]
theorem cellsP_at : ∀ (l : List Pt) (k : Nat) (x : Pt), l[k]? = some x → (cellsP l)[k * 3]? = some (.int .u8 x.kind) ∧ (cellsP l)[k * 3 + 1]? = some (.int .i64 x.kids) ∧ (cellsP l)[k * 3 + 2]? = some (.string x.word)
  | [], k, x, h => by simp at h
  | y :: l, 0, x, h => by
    simp at h; subst h
    exact ⟨rfl, rfl, rfl⟩
  | y :: l, k + 1, x, h => by
    have := cellsP_at l k x (by simpa using h)
    rw [cellsP_cons, show (k + 1) * 3 = k * 3 + 1 + 1 + 1 by omega]
    simp only [List.getElem?_cons_succ, show k * 3 + 1 + 1 + 1 + 1 = (k * 3 + 1) + 1 + 1 + 1 from rfl, show k * 3 + 1 + 1 + 1 + 2 = (k * 3 + 2) + 1 + 1 + 1 from rfl]
    exact this
theorem cellsP_kids : ∀ (l : List Pt) (k : Nat) (x : Pt) (z : Int), l[k]? = some x → cellsP (l.modify k fun p => { p with kids := z }) = (cellsP l).set (k * 3 + 1) (.int .i64 z)
  | [], k, x, z, h => by simp at h
  | y :: l, 0, x, z, h => rfl
  | y :: l, k + 1, x, z, h => by
    have := cellsP_kids l k x z (by simpa using h)
    rw [List.modify_succ_cons, cellsP_cons, cellsP_cons, this, show (k + 1) * 3 + 1 = k * 3 + 1 + 1 + 1 + 1 by omega]
    rfl
/-- a list of parts of a call's own -/
def MineP (w : World) (base : Nat) (v : Value) (l : List Pt) : Prop := w.ownsRow base 33 3 v l.length (cellsP l)
theorem mineP_below {w w' : World} {base : Nat} {v : Value} {l : List Pt} (h : MineP w base v l) (hB : Below w.heap.size w w') : MineP w' base v l :=
  h.kept (w := w) (w' := w') (row := none) ⟨hB.os, hB.tape, hB.output, hB.size, fun k hk _ => hB.block k hk⟩ (by cases v.ownBlock <;> simp)
theorem mineP_keep {B : Nat} {v : Value} {l : List Pt} {w w' : World} (h : MineP w B v l) (hk : Keeps (fun t => t = 33) w w') : MineP w' B v l := by
  refine ⟨h.1, ?_⟩
  rcases h.2 with h | ⟨g, cap, cur, e1, e2, e3, e4⟩
  · exact .inl h
  · exact .inr ⟨g, cap, cur, e1, e2, hk _ _ _ _ rfl e3, e4⟩
theorem mineP_nil (w : World) (base : Nat) : MineP w base (.slice none 0 0) [] := World.ownsRow_nil _ _ _ _
theorem mineP_parts {w : World} {base : Nat} {v : Value} {l : List Pt} (h : MineP w base v l) : ∃ a cap, v = .slice a l.length cap ∧ Parts w a l.length l ∧ l.length ≤ maxLen ∧ l.length ≤ cap := by
  rcases h.2 with ⟨h1, h0⟩ | ⟨g, cap, cur, h1, hb, hg, hn, hm, hs, ht⟩
  · exact ⟨none, 0, by rw [h1, h0], ⟨rfl, fun k x hx => by have := (List.getElem?_eq_some_iff.1 hx).1; omega⟩, by unfold maxLen; omega, by omega⟩
  · refine ⟨some ⟨g, 0, none⟩, cap, h1, ⟨rfl, fun k x hx => ?_⟩, by omega, hn⟩
    obtain ⟨c0, c1, c2⟩ := cellsP_at l k x hx
    have a0 := h.cells (g := g) (by rw [h1]; rfl) _ _ c0
    have a1 := h.cells (g := g) (by rw [h1]; rfl) _ _ c1
    have a2 := h.cells (g := g) (by rw [h1]; rfl) _ _ c2
    refine ⟨g, 0, rfl, ?_, ?_, ?_⟩
    · rw [Nat.zero_add]
      by_cases h0 : k * 3 = 0
      · simpa [Addr.add, h0] using a0
      · simpa [Addr.add, h0] using a0
    · rw [Nat.zero_add]; simpa [Addr.add] using a1
    · rw [Nat.zero_add]; simpa [Addr.add] using a2
theorem mineP_snoc {w : World} {base : Nat} {v : Value} {l : List Pt} {x : Pt} (h : w.ownsRow base 33 3 v (l.length + 1) (cellsP l ++ [.int .u8 x.kind, .int .i64 x.kids, .string x.word])) : MineP w base v (l ++ [x]) := by
  unfold MineP
  rw [List.length_append, cellsP_app]; exact h
/-- the store of a part's number of kids -/
theorem mineP_set {w : World} {B g n cap k : Nat} {l : List Pt} {x : Pt} (z : Int) (hx : l[k]? = some x) (h : MineP w B (.slice (some ⟨g, 0, none⟩) n cap) l) : MineP (w.setCell ⟨g, k * 3 + 1, none⟩ (.int .i64 z)) B (.slice (some ⟨g, 0, none⟩) n cap) (l.modify k fun p => { p with kids := z }) := by
  refine ⟨by rw [cellsP_len], .inr ?_⟩
  have hk := (List.getElem?_eq_some_iff.1 hx).1
  rcases h.2 with ⟨h1, _⟩ | ⟨g', cap', cur, h1, e2, e3, e4, e5, e6, e7⟩
  · cases h1
  · simp only [Value.slice.injEq, Option.some.injEq, Addr.mk.injEq, and_true] at h1
    obtain ⟨rfl, rfl, rfl⟩ := h1
    refine ⟨g, cap, cur.set! (k * 3 + 1) (.int .i64 z), by simp, e2, ?_, by simpa using e4, e5, by simp; simpa using e6, ?_⟩
    · rw [heap_setCell_same _ _ _ _ _ _ e3]; rfl
    · rw [cellsP_kids l k x z hx, ← e7]
      simp [List.take_set]
end Go.Proofs.YtoffjpgobhcipaaDoor.Trm

namespace Go.Proofs.YtoffjpgobhcipaaDoor.Trm
open Go.ChangeShapes Go.WideShapes Go.ChangeAt Go.RowKit

/-- what a text reads as -/
noncomputable def readP (s : List UInt8) : Option (List Pt) := (treeQ s).bind fun y => if y.2 = [] then some y.1 else none
def ReadIs (B : Nat) (s : List UInt8) (e : Ending) (w' : World) : Prop :=
  ∃ (v : Value) (c : Int) (l : List Pt), e = .returned (.tuple #[v, .int .i64 c]) ∧ MineP w' B v l ∧
    (1048576 < s.length → l = [] ∧ c = 2) ∧ (s.length ≤ 1048576 → (readP s = none → l = [] ∧ c = 9) ∧ ∀ L, readP s = some L → l = L ∧ c = 0)
set_option maxHeartbeats 4000000 in
theorem read_long (s : ByteArray) (hs : s.size ≤ 140737488351232) (hl : 1048576 < s.size) (w : World) :
    Calls Tryd.prog 7 #[.string s] w fun e w' => ReadIs w.heap.size s.data.toList e w' ∧ Below w.heap.size w w' := by
  have HR : Hid (∀ w', ReadIs w.heap.size s.data.toList (.returned (.tuple #[.slice none 0 0, .int .i64 2])) w') := Lib.hid (fun w' => ⟨_, 2, [], rfl, mineP_nil _ _, fun _ => ⟨rfl, rfl⟩, fun h => by simp at h; omega⟩)
  have d1 : decide ((1048576 : Int) < s.size) = true := decide_eq_true (by omega)
  clear hs hl
  go_enter Tryd.func7, Tryd.ntmps7
  go_wp2
  go_ret2
  exact ⟨HR.out _, (Below.refl _ _).alloc (Nat.le_refl _) _⟩
/-- the place has moved on -/
def Adv (w w' : World) (q : Nat) (v : Nat) : Prop := w'.heap[q]? = some (.cells #[.int .i64 (v : Int)] 3 (0, 0)) ∧ (∀ b, b ≠ q → w'.heap[b]? = w.heap[b]?) ∧ Below q w w' ∧ w'.heap.size = w.heap.size
theorem adv_set {w : World} {q k : Nat} (h : w.heap[q]? = some (.cells #[.int .i64 (k : Int)] 3 (0, 0))) (n : Nat) : Adv w (w.setCell ⟨q, 0, none⟩ (.int .i64 (n : Int))) q n :=
  ⟨one_setCell h, fun b hb => heap_setCell_other _ _ _ _ hb, (Below.refl _ _).setCell (p := ⟨q, 0, none⟩) (Nat.le_refl _) _, by simp⟩
theorem next_yes (s : ByteArray) (hs : s.size ≤ 1048576) (c : UInt8) (k : Nat) (hk : k ≤ s.size) (w : World) (b q : Nat) (h0 : w.heap[b]? = some (.cells #[.string s] 9 (0, 0))) (h1 : w.heap[q]? = some (.cells #[.int .i64 (k : Int)] 3 (0, 0))) (h : s.data.toList[k]? = some c) :
    Calls Tryd.prog 21 #[.string ⟨#[c]⟩, .pointer (some ⟨b, 0, none⟩), .pointer (some ⟨q, 0, none⟩)] w fun e w' => e = .returned (.bool true) ∧ Adv w w' q (k + 1) := by
  have hn := next_any s hs c k hk w b q (cell_of_one h0) (cell_of_one h1) (free_of_one h1)
  rw [if_pos h, decide_eq_true h] at hn
  refine hn.mono ?_
  rintro e w' ⟨rfl, rfl⟩
  exact ⟨rfl, adv_set h1 (k + 1)⟩
theorem next_no (s : ByteArray) (hs : s.size ≤ 1048576) (c : UInt8) (k : Nat) (hk : k ≤ s.size) (w : World) (b q : Nat) (h0 : w.heap[b]? = some (.cells #[.string s] 9 (0, 0))) (h1 : w.heap[q]? = some (.cells #[.int .i64 (k : Int)] 3 (0, 0))) (h : ¬ s.data.toList[k]? = some c) :
    Calls Tryd.prog 21 #[.string ⟨#[c]⟩, .pointer (some ⟨b, 0, none⟩), .pointer (some ⟨q, 0, none⟩)] w fun e w' => e = .returned (.bool false) ∧ w' = w := by
  have hn := next_any s hs c k hk w b q (cell_of_one h0) (cell_of_one h1) (free_of_one h1)
  rw [if_neg h, decide_eq_false h] at hn
  exact hn
theorem own_ne {w : World} {B e size n q : Nat} {v : Value} {xs : List Value} (h : w.ownsRow B e size v n xs) (hq : q < B) : v.ownBlock ≠ some q := by
  rcases h.2 with ⟨rfl, _⟩ | ⟨g, cap, cur, rfl, hb, _⟩
  · intro h; cases h
  · intro h
    have : g = q := by simpa [Value.ownBlock] using h
    omega
theorem mineP_adv {w w' : World} {B q n : Nat} {v : Value} {l : List Pt} (h : MineP w B v l) (ha : Adv w w' q n) (hq : q < B) : MineP w' B v l :=
  h.kept (w' := w') (row := some q) ⟨ha.2.2.1.os, ha.2.2.1.tape, ha.2.2.1.output, by rw [ha.2.2.2]; exact Nat.le_refl _, fun k _ hk => ha.2.1 k (fun e => hk (by rw [e]))⟩ (.inr (own_ne h hq))
theorem mineI_adv {w w' : World} {B q n : Nat} {v : Value} {l : List Int} (h : MineI w B v l) (ha : Adv w w' q n) (hq : q < B) : MineI w' B v l :=
  h.kept (w' := w') (row := some q) ⟨ha.2.2.1.os, ha.2.2.1.tape, ha.2.2.1.output, by rw [ha.2.2.2]; exact Nat.le_refl _, fun k _ hk => ha.2.1 k (fun e => hk (by rw [e]))⟩ (.inr (own_ne h hq))
end Go.Proofs.YtoffjpgobhcipaaDoor.Trm

namespace Go.Proofs.YtoffjpgobhcipaaDoor.Trm
open Go.ChangeShapes Go.WideShapes Go.ChangeAt Go.RowKit

theorem three_new (w : World) (x y z : Value) (t : TypeId) : ∀ j u, [x, y, z][j]? = some u → (w.alloc (.cells #[x, y, z] t)).cell? ((⟨w.heap.size, 0, none⟩ : Addr).add j) = some u := by
  intro j u h
  have hj : j < 3 := by have := (List.getElem?_eq_some_iff.1 h).1; simpa using this
  match j, hj with
  | 0, _ => simp at h; subst h; rw [show ((⟨w.heap.size, 0, none⟩ : Addr).add 0) = ⟨w.heap.size, 0, none⟩ from rfl, cell_of_row _ _ _ _ _ _ (heap_alloc_new w _)]; rfl
  | 1, _ => simp at h; subst h; rw [show ((⟨w.heap.size, 0, none⟩ : Addr).add 1) = ⟨w.heap.size, 1, none⟩ from rfl, cell_of_row _ _ _ _ _ _ (heap_alloc_new w _)]; rfl
  | 2, _ => simp at h; subst h; rw [show ((⟨w.heap.size, 0, none⟩ : Addr).add 2) = ⟨w.heap.size, 2, none⟩ from rfl, cell_of_row _ _ _ _ _ _ (heap_alloc_new w _)]; rfl
theorem info28z : (Tryd.prog.info? 33).map (fun i => (i.zero, i.size, i.bytes)) = some (some (.agg #[.int .u8 0, .int .i64 0, .string ⟨#[]⟩]), 3, 32) := by kernel_rfl
theorem keeps_grownE {w w' : World} {B n e sz : Nat} {v : Value} {xs : List Value} {o : Obj} (h : w.ownsRow B e sz v n xs) (hg : (w.alloc o).grownBy w' v.ownBlock) : Keeps (fun t => t ≠ e) w w' := fun k cur t fr ht hk => by
  have hlt := (Array.getElem?_eq_some_iff.1 hk).1
  rw [hg.block k (by simp; omega) (fun hv => own_type h hv.symm hk ht), heap_alloc_old _ _ hlt, hk]
theorem keeps_grownF {w w' : World} {B n e sz : Nat} {v : Value} {xs : List Value} (h : w.ownsRow B e sz v n xs) (hg : w.grownBy w' v.ownBlock) : Keeps (fun t => t ≠ e) w w' := fun k cur t fr ht hk => by
  have hlt := (Array.getElem?_eq_some_iff.1 hk).1
  rw [hg.block k hlt (fun hv => own_type h hv.symm hk ht), hk]
theorem cellsP_one (p : Pt) : cellsP [p] = [.int .u8 p.kind, .int .i64 p.kids, .string p.word] := rfl
theorem cellsP_get : ∀ (l : List Pt) (j : Nat) (u : Value), (cellsP l)[j]? = some u → ∃ k x, l[k]? = some x ∧ ((j = k * 3 ∧ u = .int .u8 x.kind) ∨ (j = k * 3 + 1 ∧ u = .int .i64 x.kids) ∨ (j = k * 3 + 2 ∧ u = .string x.word))
  | [], j, u, h => by simp [cellsP] at h
  | x :: l, 0, u, h => by
    rw [cellsP_cons] at h
    simp at h
    exact ⟨0, x, rfl, .inl ⟨rfl, h.symm⟩⟩
  | x :: l, 1, u, h => by
    rw [cellsP_cons] at h
    simp at h
    exact ⟨0, x, rfl, .inr (.inl ⟨rfl, h.symm⟩)⟩
  | x :: l, 2, u, h => by
    rw [cellsP_cons] at h
    simp at h
    exact ⟨0, x, rfl, .inr (.inr ⟨rfl, h.symm⟩)⟩
  | x :: l, j + 3, u, h => by
    rw [cellsP_cons] at h
    obtain ⟨k, y, h1, h2⟩ := cellsP_get l j u (by simpa using h)
    refine ⟨k + 1, y, by simpa using h1, ?_⟩
    rcases h2 with ⟨a, b⟩ | ⟨a, b⟩ | ⟨a, b⟩
    · exact .inl ⟨by omega, b⟩
    · exact .inr (.inl ⟨by omega, b⟩)
    · exact .inr (.inr ⟨by omega, b⟩)
/-- all cells of a slice that reads as parts -/
theorem parts_cells {w : World} {g off n : Nat} {l : List Pt} (h : Parts w (some ⟨g, off, none⟩) n l) : ∀ j u, (cellsP l)[j]? = some u → w.cell? ((⟨g, off, none⟩ : Addr).add j) = some u := by
  intro j u hj
  obtain ⟨k, x, h1, h2⟩ := cellsP_get l j u hj
  obtain ⟨g', off', e, c0, c1, c2⟩ := h.2 k x h1
  simp only [Option.some.injEq, Addr.mk.injEq, and_true] at e
  obtain ⟨rfl, rfl⟩ := e
  have ha : ∀ z, (⟨g, off, none⟩ : Addr).add z = ⟨g, off + z, none⟩ := fun z => by
    unfold Addr.add
    by_cases hz : z = 0
    · subst hz; rfl
    · simp [hz]
  rw [ha]
  rcases h2 with ⟨rfl, rfl⟩ | ⟨rfl, rfl⟩ | ⟨rfl, rfl⟩
  · exact c0
  · exact c1
  · exact c2
theorem cells_one (l : List Pt) : ∀ u ∈ cellsP l, u.oneCell' = true := by
  intro u hu
  obtain ⟨j, hj⟩ := List.mem_iff_getElem?.1 hu
  obtain ⟨k, x, _, h⟩ := cellsP_get l j u hj
  rcases h with ⟨_, rfl⟩ | ⟨_, rfl⟩ | ⟨_, rfl⟩ <;> rfl
theorem mineP_app {w : World} {B : Nat} {v : Value} {l m : List Pt} (h : w.ownsRow B 33 3 v (l.length + m.length) (cellsP l ++ cellsP m)) : MineP w B v (l ++ m) := by
  unfold MineP
  rw [List.length_append, cellsP_app]; exact h
theorem mineP_one {w : World} {B : Nat} {p : Pt} (hB : B ≤ w.heap.size) : MineP (w.alloc (.cells #[.int .u8 p.kind, .int .i64 p.kids, .string p.word] 33)) B (.slice (some ⟨w.heap.size, 0, none⟩) 1 1) [p] :=
  ⟨rfl, .inr ⟨w.heap.size, 1, _, rfl, hB, heap_alloc_new w _, Nat.le_refl _, by unfold maxLen; omega, rfl, rfl⟩⟩
theorem mineP_mono {w : World} {b b' : Nat} {v : Value} {l : List Pt} (h : MineP w b v l) (hb : b' ≤ b) : MineP w b' v l :=
  ⟨h.1, h.2.imp id fun ⟨g, cap, cur, h1, h2, h3⟩ => ⟨g, cap, cur, h1, Nat.le_trans hb h2, h3⟩⟩
/-- a list of a call's own that has parts -/
theorem mineP_some {w : World} {B : Nat} {v : Value} {l : List Pt} (h : MineP w B v l) (hl : l ≠ []) : ∃ g cap cur, v = .slice (some ⟨g, 0, none⟩) l.length cap ∧ B ≤ g ∧ g < w.heap.size ∧ w.heap[g]? = some (.cells cur 33 (0, 0)) ∧ l.length ≤ cap ∧ cap ≤ maxLen ∧ (∀ j u, (cellsP l)[j]? = some u → w.cell? ((⟨g, 0, none⟩ : Addr).add j) = some u) ∧ ∀ i x, l[i]? = some x → w.cell? ⟨g, i * 3 + 1, none⟩ = some (.int .i64 x.kids) := by
  rcases h.2 with ⟨_, h0⟩ | ⟨g, cap, cur, h1, e2, e3, e4, e5, _⟩
  · exact absurd (List.eq_nil_of_length_eq_zero h0) hl
  · have hc := h.cells (g := g) (by rw [h1]; rfl)
    refine ⟨g, cap, cur, h1, e2, (Array.getElem?_eq_some_iff.1 e3).1, e3, e4, e5, hc, fun i x hx => ?_⟩
    have := hc _ _ (cellsP_at l i x hx).2.1
    simpa [Addr.add] using this
theorem one_at {w : World} {x : Value} {t : TypeId} {N : Nat} (hN : N = w.heap.size) : ∀ j u, [x][j]? = some u → (w.alloc (.cells #[x] t)).cell? ((⟨N, 0, none⟩ : Addr).add j) = some u := by
  subst hN; exact one_new w x t
theorem three_at {w : World} {x y z : Value} {t : TypeId} {N : Nat} (hN : N = w.heap.size) : ∀ j u, [x, y, z][j]? = some u → (w.alloc (.cells #[x, y, z] t)).cell? ((⟨N, 0, none⟩ : Addr).add j) = some u := by
  subst hN; exact three_new w x y z t
end Go.Proofs.YtoffjpgobhcipaaDoor.Trm

namespace Go.Proofs.YtoffjpgobhcipaaDoor.Trm

theorem head_suffix {s : List UInt8} {x : Pt × List UInt8} (h : headOf s = some x) : x.2 <:+ s := by
  have h0 : s.dropWhile isDig <:+ s := List.dropWhile_suffix _
  unfold headOf at h
  split at h
  · split at h
    · split at h
      · split at h
        · injection h with h
          subst h
          exact (List.drop_suffix _ _).trans h0
        · cases h
      · cases h
    · injection h with h
      subst h
      exact h0
  · cases h
theorem head_rest {s : List UInt8} {x : Pt × List UInt8} {m : Nat} (h : headOf (s.drop m) = some x) : x.2 = s.drop (s.length - x.2.length) :=
  (List.suffix_iff_eq_drop.1 ((head_suffix h).trans (List.drop_suffix _ _)))
/-- what is read up to a place -/
def ReadInv (s : List UInt8) (first : Bool) (l : List Pt) (st : List Nat) (k : Nat) : Prop :=
  (first = true → l = [] ∧ st = [] ∧ k = 0) ∧ (first = false → treeQ s = finQ l st (s.drop k)) ∧ (∀ i ∈ st, i < l.length) ∧ l.length ≤ k ∧ st.length ≤ k ∧ (∀ x ∈ l, 0 ≤ x.kids ∧ x.kids ≤ k)
theorem inv_pop {s : List UInt8} {l : List Pt} {i : Nat} {st : List Nat} {k : Nat} (h : ReadInv s false l (i :: st) k) (h41 : s[k]? = some 41) : ReadInv s false l st (k + 1) := by
  obtain ⟨_, h1, h2, h3, h4, h5⟩ := h
  rw [List.length_cons] at h4
  refine ⟨fun h => (by cases h), fun _ => ?_, fun j hj => h2 j (List.mem_cons_of_mem _ hj), by omega, by omega, fun x hx => by have := h5 x hx; omega⟩
  rw [h1 rfl, fin_pop l i st _ (by rw [List.getElem?_drop]; exact h41), List.drop_drop]
theorem mod_same {l : List Pt} {i : Nat} {x : Pt} (hx : l[i]? = some x) : (l.modify i fun p => { p with kids := x.kids + 1 }) = l.modify i fun p => { p with kids := p.kids + 1 } := by
  apply List.ext_getElem?
  intro j
  rw [mod_at, mod_at]
  by_cases h : i = j
  · subst h; rw [if_pos rfl, if_pos rfl, hx]; rfl
  · rw [if_neg h, if_neg h]
theorem inv_push {s : List UInt8} {l : List Pt} {i : Nat} {st : List Nat} {k : Nat} {p : Pt} {r : List UInt8} {x : Pt} (h : ReadInv s false l (i :: st) k) (h32 : s[k]? = some 32) (h40 : s[k + 1]? = some 40) (hq : headOf (s.drop (k + 2)) = some (p, r)) (hx : l[i]? = some x) :
    ReadInv s false ((l.modify i fun q => { q with kids := x.kids + 1 }) ++ [p]) (l.length :: i :: st) (s.length - r.length) ∧ k + 2 + r.length < s.length := by
  obtain ⟨_, h1, h2, h3, h4, h5⟩ := h
  have hl := head_lt hq
  have hk := head_kids hq
  have hr := head_rest hq
  simp only [List.length_drop] at hl hk hr
  have hi := (List.getElem?_eq_some_iff.1 hx).1
  rw [List.length_cons] at h4
  refine ⟨⟨fun h => (by cases h), fun _ => ?_, fun j hj => ?_, ?_, ?_, fun y hy => ?_⟩, by omega⟩
  · rw [h1 rfl, fin_push l i st (s.drop k) p r hi (by rw [List.getElem?_drop]; exact h32) (by rw [List.getElem?_drop]; exact h40) (by rw [List.drop_drop]; exact hq), mod_same hx, ← hr]
  · rw [List.length_append, List.length_modify, List.length_singleton]
    rcases List.mem_cons.1 hj with rfl | hj
    · omega
    · have := h2 j hj; omega
  · rw [List.length_append, List.length_modify, List.length_singleton]; omega
  · simp only [List.length_cons]; omega
  · rcases List.mem_append.1 hy with hy | hy
    · obtain ⟨j, hj⟩ := List.mem_iff_getElem?.1 hy
      rw [mod_at] at hj
      by_cases hij : i = j
      · subst hij
        rw [if_pos rfl, hx] at hj
        simp at hj
        have := h5 x (List.mem_of_getElem? hx)
        rw [← hj]
        simp only; omega
      · rw [if_neg hij] at hj
        have := h5 y (List.mem_of_getElem? hj)
        omega
    · rw [List.mem_singleton.1 hy, hk]; omega
theorem inv_first {s : List UInt8} {p : Pt} {r : List UInt8} (h40 : s[0]? = some 40) (hq : headOf (s.drop 1) = some (p, r)) :
    ReadInv s false [p] [0] (s.length - r.length) ∧ 1 + r.length < s.length := by
  have hl := head_lt hq
  have hk := head_kids hq
  have hr := head_rest hq
  simp only [List.length_drop] at hl hk hr
  refine ⟨⟨fun h => (by cases h), fun _ => ?_, fun j hj => ?_, ?_, ?_, fun y hy => ?_⟩, by omega⟩
  · rw [tree_fin s p r h40 hq, ← hr]
  · rw [List.mem_singleton.1 hj]; simp
  · simp only [List.length_singleton]; omega
  · simp only [List.length_singleton]; omega
  · rw [List.mem_singleton.1 hy, hk]; omega
end Go.Proofs.YtoffjpgobhcipaaDoor.Trm
