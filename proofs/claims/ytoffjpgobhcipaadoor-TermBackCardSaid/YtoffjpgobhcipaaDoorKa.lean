/-
  Layer 11: strings.Builder with what its writers leave alone; plain texts for Show; Itoa, ParseUint, what lies on stacks (texts Im Hc In Iq).
-/
import Derived.Test.YtoffjpgobhcipaaDoorIc
import Derived.Test.YtoffjpgobhcipaaDoorQe
import Derived.Test.YtoffjpgobhcipaaDoorHb
import Derived.Test.YtoffjpgobhcipaaDoorIj
import Derived.Test.YtoffjpgobhcipaaDoorShelb
import Derived.Lib.AppendIntMem
import Derived.Lib.SmallJoins
namespace Go.Proofs.YtoffjpgobhcipaaDoor.Trm
open Go.ChangeShapes Go.WideShapes Go.ChangeAt Go.RowKit

/-- blocks of these types are as they were -/
def Keeps (S : TypeId → Prop) (w w' : World) : Prop := ∀ (k : Nat) (cur : Array Value) (t : TypeId) (fr : Nat × Nat), S t → w.heap[k]? = some (Obj.cells cur t fr) → w'.heap[k]? = some (Obj.cells cur t fr)
theorem Keeps.trans {S : TypeId → Prop} {a b c : World} (h : Keeps S a b) (g : Keeps S b c) : Keeps S a c := fun k cur t fr hs hk => g k cur t fr hs (h k cur t fr hs hk)
theorem Keeps.refl (S : TypeId → Prop) (w : World) : Keeps S w w := fun _ _ _ _ _ hk => hk
theorem Keeps.sub {S S' : TypeId → Prop} {a b : World} (h : Keeps S a b) (hs : ∀ t, S' t → S t) : Keeps S' a b := fun k cur t fr ht hk => h k cur t fr (hs t ht) hk
theorem Keeps.below {S : TypeId → Prop} {w w' : World} (h : Below w.heap.size w w') : Keeps S w w' := fun k cur t fr _ hk => by rw [h.block k (Array.getElem?_eq_some_iff.1 hk).1, hk]
theorem own_type {w : World} {B k : Nat} {e t : TypeId} {size n : Nat} {v : Value} {xs : List Value} {cur : Array Value} {fr : Nat × Nat} (h : w.ownsRow B e size v n xs) (hv : v.ownBlock = some k) (hk : w.heap[k]? = some (.cells cur t fr)) (ht : t ≠ e) : False := by
  rcases h.2 with ⟨rfl, _⟩ | ⟨g', cap, cur', rfl, _, hg, _⟩
  · cases hv
  · have hgk : g' = k := by simpa [Value.ownBlock] using hv
    rw [hgk, hk] at hg
    injection hg with hg
    injection hg with _ hg
    exact ht hg
theorem copyCheck_keep (B b : Nat) (bs : List Value) (w : World) (h : Lib.IsBuilder 42 5 B b bs w) :
    Calls Tryd.prog 33 #[.pointer (some ⟨b, 0, none⟩)] w fun e w' => e = .returned (.tuple #[]) ∧ (Lib.BuilderAt 42 5 B b (.pointer (some ⟨b, 0, none⟩)) bs w' ∧ Below B w w' ∧ Keeps (fun t => t ≠ 5 ∧ t ≠ 42) w w') := by
  rcases h with h | h
  · refine (copyCheck_fresh b w h.cell0 h.shape h.frozen0).mono ?_
    rintro e w' ⟨rfl, rfl⟩
    refine ⟨rfl, h.used _, (Below.refl B w).setCell (p := ⟨b, 0, none⟩) h.1 _, fun k cur t fr ht hk => ?_⟩
    obtain ⟨_, v, hbk, _⟩ := h
    rw [heap_setCell_other _ _ k _ (fun e => by rw [show k = b from e] at hk; rw [hbk] at hk; injection hk with hk; injection hk with _ hk; exact ht.2 hk.symm), hk]
  · refine (copyCheck_used b w h.cell0).mono ?_
    rintro e w' ⟨rfl, rfl⟩
    exact ⟨rfl, h, Below.refl B _, Keeps.refl _ _⟩
theorem builder_keep {B b : Nat} {bs : List Value} {w w' : World} (h : Lib.IsBuilder 42 5 B b bs w) (hk : Keeps (fun t => t = 5 ∨ t = 42) w w') : Lib.IsBuilder 42 5 B b bs w' := by
  have h1 : ∀ p, Lib.BuilderAt 42 5 B b p bs w → Lib.BuilderAt 42 5 B b p bs w' := by
    rintro p ⟨hB, v, hb, ho, hne⟩
    refine ⟨hB, v, hk _ _ _ _ (.inr rfl) hb, ⟨ho.1, ?_⟩, hne⟩
    rcases ho.2 with h | ⟨g, cap, cur, e1, e2, e3, e4⟩
    · exact .inl h
    · exact .inr ⟨g, cap, cur, e1, e2, hk _ _ _ _ (.inl rfl) e3, e4⟩
  exact h.imp (h1 _) (h1 _)
theorem mineI_keep {B : Nat} {v : Value} {xs : List Int} {w w' : World} (h : MineI w B v xs) (hk : Keeps (fun t => t = 3) w w') : MineI w' B v xs := by
  refine ⟨h.1, ?_⟩
  rcases h.2 with h | ⟨g, cap, cur, e1, e2, e3, e4⟩
  · exact .inl h
  · exact .inr ⟨g, cap, cur, e1, e2, hk _ _ _ _ rfl e3, e4⟩
theorem writeString_keep (B b : Nat) (bs : List Value) (s : ByteArray) (w : World) (h : Lib.IsBuilder 42 5 B b bs w) (hlen : bs.length + s.size ≤ 140737488355328) (hBw : B ≤ w.heap.size) :
    Calls Tryd.prog 16 #[.pointer (some ⟨b, 0, none⟩), .string s] w fun e w' => e = .returned (.tuple #[.int .i64 s.size, .nilIface]) ∧ (Lib.BuilderAt 42 5 B b (.pointer (some ⟨b, 0, none⟩)) (bs ++ Lib.strCells s) w' ∧ Below B w w' ∧ Keeps (fun t => t ≠ 5 ∧ t ≠ 42) w w') := by
  obtain ⟨i0, hi, hz0, hz1, hz2⟩ := info_parts info5
  go_enter Tryd.func16, Tryd.ntmps16
  go_wp2_with (go_at_call 33; refine (copyCheck_keep B b bs _ h).mono ?_)
  rintro e w1 ⟨rfl, h1, hb1, hk1⟩
  obtain ⟨hB, v, hbk, hown, hne⟩ := h1
  have c0 : w1.cell? ⟨b, 0, none⟩ = some (.pointer (some ⟨b, 0, none⟩)) := by rw [Lib.cell_of_heap hbk]; rfl
  have c1 : w1.cell? ⟨b, 1, none⟩ = some v := by rw [Lib.cell_of_heap hbk]; rfl
  go_wp2_with (at_builtin; refine Lib.wpList_append_own_string _ rfl _ _ 40 9 rfl B 5 i0 Tryd.underlying40 Tryd.underlying9 hi hz0 hz1 hz2 _ _ _ rfl hown s rfl ?c3 ?c4 ?c5 ?_)
  case c3 => unfold maxLen; omega
  case c4 => omega
  case c5 => have := hb1.size; omega
  intro v' w2 hown' hgrow _
  have hlt : b < w1.heap.size := (Array.getElem?_eq_some_iff.1 hbk).1
  have hb2 : w2.heap[b]? = some (.cells #[.pointer (some ⟨b, 0, none⟩), v] 42 (0, 0)) := by
    rw [hgrow.block b hlt (fun e => hne e.symm)]
    exact hbk
  have d0 : w2.cell? ⟨b, 0, none⟩ = some (.pointer (some ⟨b, 0, none⟩)) := by rw [Lib.cell_of_heap hb2]; rfl
  have d1 : w2.cell? ⟨b, 1, none⟩ = some v := by rw [Lib.cell_of_heap hb2]; rfl
  have f1 : w2.frozen? ⟨b, 1, none⟩ = false := Lib.frozen_of_heap hb2 1
  obtain ⟨ao, n', cap, rfl⟩ : ∃ ao n' cap, v' = .slice ao n' cap := by
    rcases hown'.2 with ⟨hv, _⟩ | ⟨g, cap, cur, hv, _⟩
    · exact ⟨_, _, _, hv⟩
    · exact ⟨_, _, _, hv⟩
  go_wp2
  go_ret2
  refine ⟨rfl, ?_, ?_, ?_⟩
  · exact Lib.BuilderAt.put (T := 42) (e := 5) hB hb2 (bs' := bs ++ Lib.strCells s) (by simpa [Lib.strCells_length] using hown') (by decide)
  · exact (hb1.grown hgrow (by have := hb1.size; omega) (fun k hk => (hown.lt k hk).1)).setCell (p := ⟨b, 1, none⟩) hB _
  · exact hk1.trans (fun k cur t fr ht hk => by
      have hg : w2.heap[k]? = w1.heap[k]? := hgrow.block k (Array.getElem?_eq_some_iff.1 hk).1 (fun e => own_type hown (by rw [← e]) hk ht.1)
      rw [heap_setCell_other _ _ k _ (fun e => by rw [show k = b from e] at hk; rw [hbk] at hk; injection hk with hk; injection hk with _ hk; exact ht.2 hk.symm), hg, hk])
theorem writeByte_keep (B b : Nat) (bs : List Value) (c : UInt8) (w : World) (h : Lib.IsBuilder 42 5 B b bs w) (hlen : bs.length + 1 ≤ 140737488355328) (hBw : B ≤ w.heap.size) :
    Calls Tryd.prog 15 #[.pointer (some ⟨b, 0, none⟩), .int .u8 c.toNat] w fun e w' => e = .returned .nilIface ∧ (Lib.BuilderAt 42 5 B b (.pointer (some ⟨b, 0, none⟩)) (bs ++ [.int .u8 c.toNat]) w' ∧ Below B w w' ∧ Keeps (fun t => t ≠ 5 ∧ t ≠ 42) w w') := by
  obtain ⟨i0, hi, hz0, hz1, hz2⟩ := info_parts info5
  go_enter Tryd.func15, Tryd.ntmps15
  go_wp2_with (go_at_call 33; refine (copyCheck_keep B b bs _ h).mono ?_)
  rintro e w1 ⟨rfl, h1, hb1, hk1⟩
  obtain ⟨hB, v, hbk, hown, hne⟩ := h1
  have c0 : w1.cell? ⟨b, 0, none⟩ = some (.pointer (some ⟨b, 0, none⟩)) := by rw [Lib.cell_of_heap hbk]; rfl
  have c1 : w1.cell? ⟨b, 1, none⟩ = some v := by rw [Lib.cell_of_heap hbk]; rfl
  have hlt : b < w1.heap.size := (Array.getElem?_eq_some_iff.1 hbk).1
  have hB1 : B ≤ w1.heap.size := by have := hb1.size; omega
  go_wp2_with (at_builtin; refine wpList_append_own _ rfl _ _ 40 rfl B 5 i0 (.int .u8 0) 1 1 Tryd.underlying40 hi hz0 hz1 hz2 rfl (by decide) _ _ _ rfl (hown.alloc _) ⟨w1.heap.size, 0, none⟩ 1 1 [.int .u8 (c.toNat : Int)] rfl rfl ?c1 ?c2 ?c3 ?c4 ?c5 ?_)
  try any_goals (first | rfl | (unfold maxLen; omega) | omega | exact one_new _ _ _ | (intro u hu; simp at hu; subst hu; rfl; done) | (simp; omega))
  intro v' w2 hown' hgrow _
  have hb2 : w2.heap[b]? = some (.cells #[.pointer (some ⟨b, 0, none⟩), v] 42 (0, 0)) := by
    rw [hgrow.block b (by simp; omega) (fun e => hne e.symm)]
    show (w1.heap.push _)[b]? = _
    rw [Array.getElem?_push, if_neg (by omega)]
    exact hbk
  have d0 : w2.cell? ⟨b, 0, none⟩ = some (.pointer (some ⟨b, 0, none⟩)) := by rw [Lib.cell_of_heap hb2]; rfl
  have d1 : w2.cell? ⟨b, 1, none⟩ = some v := by rw [Lib.cell_of_heap hb2]; rfl
  have f1 : w2.frozen? ⟨b, 1, none⟩ = false := Lib.frozen_of_heap hb2 1
  obtain ⟨ao, n', cap, rfl⟩ := own_slice hown'
  go_wp2
  go_ret
  refine ⟨rfl, ?_, ?_, ?_⟩
  · exact Lib.BuilderAt.put (T := 42) (e := 5) hB hb2 (bs' := bs ++ [.int .u8 (c.toNat : Int)]) (by simpa using hown') (by decide)
  · exact ((hb1.alloc hB1 _).grown hgrow (by simp; omega) (fun k hk => (hown.lt k hk).1)).setCell (p := ⟨b, 1, none⟩) hB _
  · exact hk1.trans (fun k cur t fr ht hk => by
      have hkl := (Array.getElem?_eq_some_iff.1 hk).1
      have hg : w2.heap[k]? = (w1.alloc (.cells #[.int .u8 (c.toNat : Int)] 5)).heap[k]? := hgrow.block k (by simp; omega) (fun e => own_type hown (by rw [← e]) hk ht.1)
      rw [heap_setCell_other _ _ k _ (fun e => by rw [show k = b from e] at hk; rw [hbk] at hk; injection hk with hk; injection hk with _ hk; exact ht.2 hk.symm), hg]
      show (w1.heap.push _)[k]? = _
      rw [Array.getElem?_push, if_neg (by omega), hk])
end Go.Proofs.YtoffjpgobhcipaaDoor.Trm

namespace Go.Proofs.YtoffjpgobhcipaaDoor

theorem st_pops {l : List Pt} {k : Nat} : ∀ (z : Nat) (st : List Nat) (s : List UInt8), StTx l k (List.replicate z 0 ++ st) s → ∃ s2, s = List.replicate z 41 ++ s2 ∧ StTx l k st s2
  | 0, st, s, h => ⟨s, rfl, h⟩
  | z + 1, st, s, h => by
    rw [List.replicate_succ, List.cons_append] at h
    obtain ⟨s2, rfl, h2⟩ := st_pop h
    obtain ⟨s3, rfl, h3⟩ := st_pops z st s2 h2
    exact ⟨s3, rfl, h3⟩
def InvS (l : List Pt) (T : List UInt8) (i : Nat) (B : List UInt8) (st : List Nat) : Prop :=
  B.length ≤ 1048576 ∧ st.length ≤ i ∧ ((i = 0 ∧ B = [] ∧ st = []) ∨ (0 < i ∧ ∃ s, T = B ++ s ∧ StTx l i st s ∧ (st = [] ∨ ∃ c r, st = (c + 1) :: r)))
theorem inv_zero (l : List Pt) (T : List UInt8) : InvS l T 0 [] [] := ⟨by simp, Nat.le_refl _, .inl ⟨rfl, rfl, rfl⟩⟩
theorem inv_part {l : List Pt} {T B : List UInt8} {i : Nat} {st : List Nat} {p : Pt} (hT : showT l T) (h : InvS l T i B st) (hp : l[i]? = some p) :
    ((i = 0 ∧ B = [] ∧ st = [] ∧ ∃ s', 0 ≤ p.kids ∧ T = partTx p ++ s' ∧ StTx l (i + 1) [p.kids.toNat] s') ∨
     (0 < i ∧ ∃ c r s', st = (c + 1) :: r ∧ 0 ≤ p.kids ∧ T = (B ++ [32]) ++ (partTx p ++ s') ∧ StTx l (i + 1) (p.kids.toNat :: c :: r) s')) := by
  obtain ⟨_, _, h⟩ := h
  rcases h with ⟨rfl, rfl, rfl⟩ | ⟨hi, s, rfl, hs, hst⟩
  · obtain ⟨q, s', hq, h0, e, g⟩ := show_first hT
    rw [hp] at hq; injection hq with hq; subst hq
    exact .inl ⟨rfl, rfl, rfl, s', h0, e, g⟩
  · rcases hst with rfl | ⟨c, r, rfl⟩
    · exfalso
      have := (List.getElem?_eq_some_iff.1 hp).1
      have := hs.1
      omega
    · obtain ⟨q, s', hq, h0, e, g⟩ := st_push hs
      rw [hp] at hq; injection hq with hq; subst hq
      exact .inr ⟨hi, c, r, s', rfl, h0, by rw [e]; simp, g⟩
theorem inv_next {l : List Pt} {T B2 s' : List UInt8} {i z : Nat} {st2 : List Nat} (hT : T = B2 ++ s') (h : StTx l (i + 1) (List.replicate z 0 ++ st2) s') (hst : st2 = [] ∨ ∃ c r, st2 = (c + 1) :: r) (hl : st2.length ≤ i + 1) :
    (B2 ++ List.replicate z 41).length ≤ T.length ∧ ((B2 ++ List.replicate z 41).length ≤ 1048576 → InvS l T (i + 1) (B2 ++ List.replicate z 41) st2) := by
  obtain ⟨s2, rfl, h2⟩ := st_pops z st2 s' h
  refine ⟨by rw [hT]; simp, fun hb => ⟨hb, hl, .inr ⟨by omega, s2, by rw [hT]; simp, h2, hst⟩⟩⟩
theorem inv_end {l : List Pt} {T B : List UInt8} {st : List Nat} (hn : 0 < l.length) (h : InvS l T l.length B st) : T = B := by
  obtain ⟨_, _, h⟩ := h
  rcases h with ⟨h0, _⟩ | ⟨_, s, rfl, hs, hst⟩
  · omega
  · rcases hst with rfl | ⟨c, r, rfl⟩
    · rw [hs.2]; simp
    · exfalso
      obtain ⟨q, s', hq, _⟩ := st_push hs
      have := (List.getElem?_eq_some_iff.1 hq).1
      omega
theorem st_le {l : List Pt} {k q c : Nat} {st : List Nat} {s : List UInt8} (n : Nat) (h : StTx l k (q :: c :: st) s) : n = l.length → c ≤ n := by
  rintro rfl
  obtain ⟨s1, e, s2, _, ⟨s3, e', s4, h2, _, _⟩, _⟩ := h
  have := goes_le (row_goes h2)
  rw [kidsP_len] at this
  omega
theorem digs_len (n : Nat) : (digs n).length ≤ 3 := by
  unfold digs; split
  · simp
  · split <;> simp
theorem wordTx_len (s : ByteArray) : s.size ≤ (wordTx s).length ∧ (wordTx s).length ≤ 4 * s.size + 3 := by
  unfold wordTx
  have h1 := quoteOf_len s.data.toList
  have h2 : s.data.toList.length = s.size := by simp
  split
  · rename_i h; rw [h]; simp
  · have h3 := quoteOf_ge s.data.toList
    simp; omega
theorem part_len (p : Pt) : p.word.size ≤ (partTx p).length ∧ (partTx p).length ≤ 4 * p.word.size + 7 := by
  have h1 := wordTx_len p.word
  have h2 := digs_len p.kind
  unfold partTx
  simp; omega
theorem pops_step {z : Nat} {c : Nat} {st2 st0 : List Nat} (h : st0 = List.replicate z 0 ++ (c :: st2)) (hc : c = 0) : st0 = List.replicate (z + 1) 0 ++ st2 := by
  rw [h, hc, List.replicate_succ', List.append_assoc]; rfl
end Go.Proofs.YtoffjpgobhcipaaDoor

namespace Go.Proofs.YtoffjpgobhcipaaDoor.Trm
open Go.ChangeShapes Go.WideShapes Go.ChangeAt Go.RowKit

/-- the table of powers of ten, as it lies in memory -/
def Tab (w : World) : Prop := Lib.TabIs Tryd.prog w "internal/strconv.uint64pow10" .u64 Lib.pow10Tab
theorem var_below {w w' : World} {name : String} {cs : Array Value} (h : w.var? Tryd.prog name = some cs) (hB : Below w.heap.size w w') : w'.var? Tryd.prog name = some cs := by
  unfold World.var? at h ⊢
  cases hg : Tryd.prog.globalNamed name with
  | none => rw [hg] at h; cases h
  | some g =>
    rw [hg, Option.bind_some] at h
    rw [Option.bind_some]
    cases hh : w.heap[g]? with
    | none => rw [hh] at h; cases h
    | some o => rw [hB.block g (Array.getElem?_eq_some_iff.1 hh).1]; exact h
theorem tab_below {w w' : World} (h : Tab w) (hB : Below w.heap.size w w') : Tab w' := var_below h hB
theorem itoa_digs (n : Nat) (h : n ≤ 255) : Lib.itoa (n : Int) = digs n := by
  have h1 : ∀ n : Fin 256, Lib.itoa (n.1 : Int) = digs n.1 := by decide +kernel
  exact h1 ⟨n, by omega⟩
theorem itoa_any (n : Nat) (h : n ≤ 255) (w : World) (ht : Tab w) : Calls Tryd.prog 17 #[.int .i64 n] w fun e w' => e = .returned (.string ⟨(digs n).toArray⟩) ∧ Below w.heap.size w w' := by
  refine (Tryd.strconv_Itoa n (by omega) (by omega) w ht).mono ?_
  rintro e w' ⟨rfl, k, os, rfl⟩
  rw [itoa_digs n h]
  exact ⟨rfl, Lib.below_grow _ _ (Nat.le_refl _) _ _⟩
def KindsFit (l : List Pt) : Prop := ∀ x ∈ l, x.kind ≤ 255
/-- a stack, the last one first, as it lies in memory -/
def revI (st : List Nat) : List Int := (st.map fun (c : Nat) => (c : Int)).reverse
theorem revI_cons (c : Nat) (r : List Nat) : revI (c :: r) = revI r ++ [(c : Int)] := by simp [revI]
theorem revI_len (st : List Nat) : (revI st).length = st.length := by simp [revI]
/-- what Show answers -/
def ShowIs (l : List Pt) (e : Ending) : Prop := ∃ (X : List UInt8) (c : Int), e = .returned (.tuple #[.string ⟨X.toArray⟩, .int .i64 c]) ∧
  (wellB (kidsP l) = false → X = [] ∧ c = 8) ∧ ∀ T, showT l T → (T.length ≤ 1048576 → X = T ∧ c = 0) ∧ (1048576 < T.length → X = [] ∧ c = 2)
theorem mineI_top {w : World} {B : Nat} {v : Value} {c : Nat} {r : List Nat} (h : MineI w B v (revI (c :: r))) : ∃ g cap cur, v = .slice (some ⟨g, 0, none⟩) (r.length + 1) cap ∧ B ≤ g ∧ w.heap[g]? = some (.cells cur 3 (0, 0)) ∧ w.cell? ⟨g, r.length, none⟩ = some (.int .i64 c) ∧ r.length + 1 ≤ cap ∧ cap ≤ maxLen := by
  rcases h.2 with ⟨_, h2⟩ | ⟨g, cap, cur, rfl, e2, e3, e4, e5, e6, e7⟩
  · rw [revI_len] at h2; simp at h2
  · refine ⟨g, cap, cur, by rw [revI_len]; rfl, e2, e3, ?_, by rw [revI_len] at e4; exact e4, e5⟩
    rw [cell_of_row _ _ _ _ _ _ e3]
    have h3 : (cur.toList.take ((revI (c :: r)).length * 1))[r.length]? = some (.int .i64 (c : Int)) := by
      rw [e7, revI_cons, List.map_append, List.getElem?_append_right (by rw [List.length_map, revI_len]; exact Nat.le_refl _), List.length_map, revI_len, Nat.sub_self]; rfl
    rw [List.getElem?_take] at h3
    split at h3
    · simpa using h3
    · cases h3
theorem mineI_pop {w : World} {B g cap : Nat} {c : Nat} {r : List Nat} (h : MineI w B (.slice (some ⟨g, 0, none⟩) (r.length + 1) cap) (revI (c :: r))) : MineI w B (.slice (some ⟨g, 0, none⟩) r.length cap) (revI r) := by
  refine ⟨by simp, .inr ?_⟩
  rcases h.2 with ⟨h1, _⟩ | ⟨g', cap', cur, h1, e2, e3, e4, e5, e6, e7⟩
  · cases h1
  · rw [revI_len] at h1 e4 e7
    simp only [List.length_cons, Value.slice.injEq, Option.some.injEq, Addr.mk.injEq, true_and, and_true] at h1
    obtain ⟨rfl, rfl⟩ := h1
    refine ⟨g, cap, cur, by rw [revI_len], e2, e3, by rw [revI_len]; simp at e4; omega, e5, e6, ?_⟩
    rw [revI_len]
    have := congrArg (List.take r.length) e7
    rw [List.take_take, revI_cons, List.map_append, List.take_left' (by rw [List.length_map, revI_len])] at this
    rw [← this]; congr 1; simp
theorem mineI_set {w : World} {B g cap : Nat} {c : Nat} {r : List Nat} (d : Nat) (h : MineI w B (.slice (some ⟨g, 0, none⟩) (r.length + 1) cap) (revI (c :: r))) : MineI (w.setCell ⟨g, r.length, none⟩ (.int .i64 d)) B (.slice (some ⟨g, 0, none⟩) (r.length + 1) cap) (revI (d :: r)) := by
  refine ⟨by simp, .inr ?_⟩
  rcases h.2 with ⟨h1, _⟩ | ⟨g', cap', cur, h1, e2, e3, e4, e5, e6, e7⟩
  · cases h1
  · rw [revI_len] at h1 e4 e7
    simp only [List.length_cons, Value.slice.injEq, Option.some.injEq, Addr.mk.injEq, true_and, and_true] at h1
    obtain ⟨rfl, rfl⟩ := h1
    refine ⟨g, cap, cur.set! r.length (.int .i64 d), by rw [revI_len]; rfl, e2, ?_, by rw [revI_len]; exact e4, e5, by simp; simpa using e6, ?_⟩
    · rw [heap_setCell_same _ _ _ _ _ _ e3]; rfl
    · rw [revI_len]
      apply List.ext_getElem?
      intro j
      have h3 := congrArg (fun q => q[j]?) e7
      simp only [List.getElem?_take] at h3 ⊢
      rw [revI_cons, List.map_append] at h3 ⊢
      by_cases hj : j < r.length
      · rw [List.getElem?_append_left (by rw [List.length_map, revI_len]; exact hj)] at h3 ⊢
        rw [← h3]
        have hne : r.length ≠ j := by omega
        simp [hne]
      · by_cases hj2 : j = r.length
        · subst hj2
          rw [List.getElem?_append_right (by rw [List.length_map, revI_len]; exact Nat.le_refl _), List.length_map, revI_len, Nat.sub_self]
          have : r.length < cur.size := by rw [e6]; simp at e4; omega
          simp [this]
        · rw [if_neg (by simp; omega), List.getElem?_eq_none (by simp [revI]; omega)]
theorem keeps_set {w : World} {g j : Nat} {v : Value} {cur : Array Value} {fr : Nat × Nat} {t0 : TypeId} (hg : w.heap[g]? = some (.cells cur t0 fr)) : Keeps (fun t => t ≠ t0) w (w.setCell ⟨g, j, none⟩ v) := fun k c t f ht hk => by
  rw [heap_setCell_other _ _ k _ (fun e => by rw [show k = g from e, hg] at hk; injection hk with hk; injection hk with _ hk; exact ht hk.symm), hk]
end Go.Proofs.YtoffjpgobhcipaaDoor.Trm

namespace Go.Proofs.YtoffjpgobhcipaaDoor.Trm
open Go.ChangeShapes Go.WideShapes Go.ChangeAt Go.RowKit

/-- the two errors of strconv, as they lie in memory -/
def Errs (w : World) : Prop := (∃ tp p, w.var? Tryd.prog "strconv.ErrSyntax" = some #[.iface tp p]) ∧ (∃ tp p, w.var? Tryd.prog "strconv.ErrRange" = some #[.iface tp p])
theorem errs_below {w w' : World} (h : Errs w) (hB : Below w.heap.size w w') : Errs w' := by
  obtain ⟨⟨a, b, h1⟩, c, d, h2⟩ := h
  exact ⟨⟨a, b, var_below h1 hB⟩, c, d, var_below h2 hB⟩
theorem foldl_ge1 : ∀ (d : List UInt8) (n : Nat), n ≤ d.foldl (fun n c => 10 * n + (c.toNat - 48)) n := by
  intro d
  induction d with
  | nil => intro n; simp
  | cons c t ih => intro n; rw [List.foldl_cons]; exact Nat.le_trans (by omega) (ih _)
theorem parseM (d : List UInt8) (h : ∀ c ∈ d, isDig c = true) : ∀ acc, acc ≤ 255 → Lib.parseUintM 255 acc d = if d.foldl (fun n c => 10 * n + (c.toNat - 48)) acc ≤ 255 then .ok (d.foldl (fun n c => 10 * n + (c.toNat - 48)) acc) else .range := by
  induction d with
  | nil => intro acc ha; rw [List.foldl_nil, if_pos ha]; rfl
  | cons c t ih =>
    intro acc ha
    have hc := h c (by simp)
    unfold isDig at hc
    simp only [Bool.and_eq_true, decide_eq_true_eq] at hc
    rw [List.foldl_cons]
    unfold Lib.parseUintM
    rw [if_pos hc, if_neg (by omega), Nat.mul_comm acc 10]
    by_cases hm : 255 < 10 * acc + (c.toNat - 48)
    · rw [if_pos hm, if_neg]
      have := foldl_ge1 t (10 * acc + (c.toNat - 48))
      omega
    · rw [if_neg hm]
      exact ih (fun x hx => h x (by simp [hx])) _ (by omega)
theorem parse_digs (d : List UInt8) (h : ∀ c ∈ d, isDig c = true) : Lib.parseUintB 8 d = if d = [] then Lib.parseUintB 8 [] else if valD d ≤ 255 then .ok (valD d) else .range := by
  by_cases hd : d = []
  · rw [if_pos hd, hd]
  · rw [if_neg hd]
    unfold Lib.parseUintB
    rw [if_neg hd]
    exact parseM d h 0 (by decide)
/-- what ParseUint says of digits -/
def parseV (d : List UInt8) (e : Ending) : Prop := if d ≠ [] ∧ valD d ≤ 255 then e = .returned (.tuple #[.int .u64 (valD d), .nilIface]) else ∃ (z : Int) (p : Value), e = .returned (.tuple #[.int .u64 z, .iface 91 p])
theorem parse_any (s : ByteArray) (hs : s.size ≤ 2000000) (h : ∀ c ∈ s.data.toList, isDig c = true) (w : World) (hE : Errs w) :
    Calls Tryd.prog 36 #[.string s, .int .i64 10, .int .i64 8] w fun e w' => parseV s.data.toList e ∧ Below w.heap.size w w' := by
  obtain ⟨⟨a, b, h1⟩, c, d, h2⟩ := hE
  have hp := parse_digs s.data.toList h
  by_cases hd : s.data.toList = []
  · rw [if_pos hd] at hp
    refine (Tryd.strconv_ParseUint_10_at8_syntax_var s (by omega) hp a b w h1).mono ?_
    rintro e w' ⟨N, rfl, _, _, hB⟩
    exact ⟨by unfold parseV; rw [if_neg (fun x => x.1 hd)]; exact ⟨_, _, rfl⟩, hB⟩
  · rw [if_neg hd] at hp
    by_cases hv : valD s.data.toList ≤ 255
    · rw [if_pos hv] at hp
      refine (Tryd.strconv_ParseUint_10_at8_ok s (by omega) _ hp w).mono ?_
      rintro e w' ⟨rfl, hB⟩
      refine ⟨by unfold parseV; rw [if_pos ⟨hd, hv⟩], ?_⟩
      rcases hB with rfl | rfl
      · exact Below.refl _ _
      · exact Go.Joins.below_bytesWorld _ _ _ _ (Nat.le_refl _)
    · rw [if_neg hv] at hp
      refine (Tryd.strconv_ParseUint_10_at8_range_var s (by omega) hp c d w h2).mono ?_
      rintro e w' ⟨N, rfl, _, _, hB⟩
      exact ⟨by unfold parseV; rw [if_neg (fun x => hv x.2)]; exact ⟨_, _, rfl⟩, hB⟩
/-- what head answers -/
noncomputable def headAns (l : List UInt8) : Value := match headOf l with
  | some (p, r) => .tuple #[.agg #[.int .u8 p.kind, .int .i64 0, .string p.word], .int .i64 ((l.length - r.length : Nat) : Int)]
  | none => .tuple #[.agg #[.int .u8 0, .int .i64 0, .string ⟨#[]⟩], .int .i64 0]
def digLen (l : List UInt8) : Nat := (l.takeWhile isDig).length
theorem dig_split (l : List UInt8) : l.takeWhile isDig = l.take (digLen l) ∧ l.dropWhile isDig = l.drop (digLen l) ∧ digLen l ≤ l.length := by
  have h := List.takeWhile_append_dropWhile (p := isDig) (l := l)
  unfold digLen
  generalize l.takeWhile isDig = d at h
  generalize l.dropWhile isDig = r at h
  subst h
  exact ⟨by simp, by simp, by simp⟩
theorem dig_at {l : List UInt8} {k : Nat} (h : k < digLen l) : ∃ c, l[k]? = some c ∧ isDig c = true := by
  have h1 := (dig_split l).1
  have h2 : (l.takeWhile isDig)[k]? = l[k]? := by rw [h1, List.getElem?_take, if_pos h]
  have h3 : k < (l.takeWhile isDig).length := h
  rw [List.getElem?_eq_getElem h3] at h2
  exact ⟨_, h2.symm, all_take _ _ (List.getElem_mem h3)⟩
theorem dig_stop {l : List UInt8} {c : UInt8} (h : l[digLen l]? = some c) : isDig c = false := by
  have h1 := (dig_split l).2.1
  have h2 : (l.dropWhile isDig)[0]? = some c := by rw [h1, List.getElem?_drop, Nat.add_zero]; exact h
  cases hd : l.dropWhile isDig with
  | nil => rw [hd] at h2; cases h2
  | cons x t =>
    rw [hd] at h2
    injection h2 with h2
    subst h2
    have := List.head?_dropWhile_not isDig l
    rw [hd] at this
    simpa using this
/-- head told by what stands at places -/
theorem head_is (l : List UInt8) : headOf l =
    if l.take (digLen l) ≠ [] ∧ valD (l.take (digLen l)) ≤ 255 ∧ (l[0]? = some 48 → digLen l = 1) then
      (if l[digLen l]? = some 32 ∧ l[digLen l + 1]? = some 34 then
        (match readOf (l.drop (digLen l + 1)) 0 with
        | some (_, L, n) => if L ≠ [] ∧ quoteOf L = (l.drop (digLen l + 1)).take n then some (⟨valD (l.take (digLen l)), 0, ⟨L.toArray⟩⟩, l.drop (digLen l + 1 + n)) else none
        | none => none)
      else some (⟨valD (l.take (digLen l)), 0, ⟨#[]⟩⟩, l.drop (digLen l)))
    else none := by
  obtain ⟨h1, h2, _⟩ := dig_split l
  unfold headOf
  rw [show (l.takeWhile isDig).length = digLen l from rfl, h1, h2]
  rw [show (l.drop (digLen l))[0]? = l[digLen l]? by rw [List.getElem?_drop, Nat.add_zero], show (l.drop (digLen l))[1]? = l[digLen l + 1]? by rw [List.getElem?_drop], List.drop_drop]
  split
  · split
    · split
      · rename_i hr; rw [hr]; dsimp only; rw [List.drop_drop, Nat.add_assoc]
      · rename_i hr; rw [hr]
    · rfl
  · rfl
end Go.Proofs.YtoffjpgobhcipaaDoor.Trm
