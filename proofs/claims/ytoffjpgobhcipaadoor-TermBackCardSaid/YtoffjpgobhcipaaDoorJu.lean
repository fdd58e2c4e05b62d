/-
  Layer 11: an argument that is a list of parts, opened to cells; what its reach says.
-/
import Derived.Test.YtoffjpgobhcipaaDoorIl
import Derived.Deep.Slices
import Derived.Deep.Fields
import Derived.ChangeArms
import Derived.SizedLaws
namespace Go.Proofs.YtoffjpgobhcipaaDoor.Trm
open Go.ChangeShapes Go.WideShapes Go.ChangeAt Go.RowKit
open Go.Deep (open_slice)

/-- an edit as a datum -/
def parD {H : Type} (y : Pt) : DataW H := .agg [.lit (.int .u8 y.kind), .lit (.int .i64 y.kids), .lit (.string y.word.data.toList)]
/-- what is known of an edit that came in -/
def PFits (y : Pt) : Prop := y.kind ≤ 255 ∧ -9223372036854775808 ≤ y.kids ∧ y.kids ≤ 9223372036854775807

theorem cells28p : Tryd.prog.cellsOf 33 = 3 := by kernel_rfl
theorem one_of_three {cs : List Value} (hl : cs.length = 3) (j : Nat) (hj : j < 3) : ∃ v, (cs.drop j).take 1 = [v] ∧ cs[j]? = some v := by
  refine ⟨cs[j]'(by omega), ?_, List.getElem?_eq_getElem (by omega)⟩
  rw [List.drop_eq_getElem_cons (by omega)]; rfl
set_option maxRecDepth 100000 in
theorem open_part {H : Type} {enc : TypeId × Value → H} {W : World} {n : Nat} {cs : List Value} {x : DataW H × List MemPlace} (h : DataW.trod enc Tryd.prog W 0 (fun _ => true) true n 33 cs = some x) :
    ∃ y : Pt, cs = [.int .u8 y.kind, .int .i64 y.kids, .string y.word] ∧ x.1 = parD y ∧ PFits y := by
  obtain ⟨xs, m, _, hx, hl, hxl, hf⟩ := DataW.trod_struct Tryd.underlying33 h
  rw [cells28p] at hl
  have c3 : Tryd.prog.cellsOf 3 = 1 := by kernel_rfl
  have c9 : Tryd.prog.cellsOf 9 = 1 := by kernel_rfl
  have c5 : Tryd.prog.cellsOf 5 = 1 := by kernel_rfl
  have f0 : DataW.trod enc Tryd.prog W 0 (fun _ => true) true m 5 ((cs.drop 0).take (Tryd.prog.cellsOf 5)) = xs[0]? := hf 0 _ rfl
  have f1 : DataW.trod enc Tryd.prog W 0 (fun _ => true) true m 3 ((cs.drop 1).take (Tryd.prog.cellsOf 3)) = xs[1]? := hf 1 _ rfl
  have f2 : DataW.trod enc Tryd.prog W 0 (fun _ => true) true m 9 ((cs.drop 2).take (Tryd.prog.cellsOf 9)) = xs[2]? := hf 2 _ rfl

  rw [c5] at f0
  rw [c3] at f1
  rw [c9] at f2
  match cs, hl with
  | [v0, v1, v2], _ =>
    match xs, hxl with
    | [y0, y1, y2], _ =>
      obtain ⟨z0, e0, r0, b0⟩ := DataW.trod_int Tryd.underlying5 (x := y0) f0
      obtain ⟨z1, e1, r1, b1⟩ := DataW.trod_int Tryd.underlying3 (x := y1) f1
      obtain ⟨z2, e2, r2, b2⟩ := DataW.trod_string Tryd.underlying9 (x := y2) f2
      simp at e0 e1 e2
      subst e0 e1 e2 r0 r1 r2
      have hz : 0 ≤ z0 ∧ z0 ≤ 255 := by
        have h : (decide (0 ≤ z0) && decide (z0 ≤ 255)) = true := b0
        simpa only [Bool.and_eq_true, decide_eq_true_eq] using h
      obtain ⟨k, rfl⟩ : ∃ k : Nat, z0 = k := ⟨z0.toNat, by omega⟩
      refine ⟨⟨k, z1, z2⟩, rfl, by rw [hx]; rfl, by show k ≤ 255; omega, bounds_i64 b1⟩

theorem add_add (a : Addr) (i j : Nat) : (a.add i).add j = a.add (i + j) := by
  unfold Addr.add
  by_cases h1 : i = 0
  · subst h1; simp
  · by_cases h2 : j = 0
    · subst h2; simp [h1]
    · simp [h1, h2]; omega
theorem plain_of {w : World} {a : Addr} {v : Value} (h : w.cell? a = some v) : a = ⟨a.block, a.off, none⟩ := by
  obtain ⟨b, o, s⟩ := a
  cases s with
  | none => rfl
  | some s =>
    unfold World.cell? at h
    split at h
    · simp at h
    · cases h
theorem open_parts {H : Type} {enc : TypeId × Value → H} {W : World} {v : Value} {d : DataW H} {p : List MemPlace} (h : DataW.Trod enc Tryd.prog W 0 (fun _ => true) true 22 v d p) (hs : ∃ a n c, v = .slice a n c) :
    ∃ (a : Option Addr) (len cap : Nat) (es : List Pt), v = .slice a len cap ∧ Parts W a len es ∧ len ≤ cap ∧ cap ≤ maxLen ∧ (∀ y ∈ es, PFits y) ∧ (a = none → cap = 0) ∧
      ((d = .nil ∧ es = [] ∧ cap = 0) ∨ ∃ S, d = .slice (es.map parD) S ∧ es.length + S.length = cap) := by
  obtain ⟨a0, n0, c0, rfl⟩ := hs
  obtain ⟨fuel, hf⟩ := h
  rcases open_slice Tryd.underlying22 hf with ⟨hcs, hx⟩ | ⟨a, len, cap, m, n, D, Pl, hcs, _, hl, hm, hmm, hx, hi⟩
  · simp [Value.cells] at hcs
    obtain ⟨rfl, rfl, rfl⟩ := hcs
    refine ⟨none, 0, 0, [], rfl, ⟨rfl, fun k x hk => by simp at hk⟩, Nat.le_refl _, Nat.zero_le _, fun y hy => (by cases hy), fun _ => rfl, .inl ⟨(congrArg Prod.fst hx : _), rfl, rfl⟩⟩
  · simp [Value.cells] at hcs
    obtain ⟨rfl, rfl, rfl⟩ := hcs
    rw [if_pos rfl] at hmm
    subst hmm
    have hex : ∀ i, ∃ y : Pt, i < m → (W.cell? (a.add (i * 3)) = some (.int .u8 y.kind) ∧ W.cell? (a.add (i * 3 + 1)) = some (.int .i64 y.kids) ∧ W.cell? (a.add (i * 3 + 2)) = some (.string y.word)) ∧ D i = parD y ∧ PFits y := by
      intro i
      by_cases him : i < m
      · obtain ⟨cs', hc, ht⟩ := hi i him
        rw [cells28p] at hc
        obtain ⟨y, rfl, hd, hfit⟩ := open_part ht
        obtain ⟨_, _, hat⟩ := World.cells?_some hc
        have a0 := hat 0 (by omega)
        have a1 := hat 1 (by omega)
        have a2 := hat 2 (by omega)
        rw [add_add] at a0 a1 a2
        exact ⟨y, fun _ => ⟨⟨a0, a1, a2⟩, hd, hfit⟩⟩
      · exact ⟨⟨0, 0, ⟨#[]⟩⟩, fun h => absurd h him⟩
    obtain ⟨f, hff⟩ := Classical.skolem.1 hex
    refine ⟨some a, n0, m, (List.range n0).map f, rfl, ⟨by simp, fun k x hk => ?_⟩, hl, hm, fun y hy => ?_, (fun h => by cases h), .inr ⟨(List.range (m - n0)).map fun j => D (n0 + j), ?_, by simp; omega⟩⟩
    · have hkl : k < n0 := by have := (List.getElem?_eq_some_iff.1 hk).1; simpa using this
      have hx' : f k = x := by
        rw [List.getElem?_map, List.getElem?_range hkl] at hk
        simpa using hk
      subst hx'
      obtain ⟨⟨c0, c1, c2⟩, _, _⟩ := hff k (by omega)
      obtain ⟨⟨z0, _, _⟩, _, _⟩ := hff 0 (by omega)
      have ha : a.add (0 * 3) = a := by simp [Addr.add]
      rw [ha] at z0
      have hpl := plain_of z0
      refine ⟨a.block, a.off, by rw [← hpl], ?_, ?_, ?_⟩
      · rw [hpl] at c0; rw [add_plain] at c0; exact c0
      · rw [hpl] at c1; rw [add_plain] at c1; rw [Nat.add_assoc]; exact c1
      · rw [hpl] at c2; rw [add_plain] at c2; rw [Nat.add_assoc]; exact c2
    · obtain ⟨k, hk, rfl⟩ := List.mem_map.1 hy
      exact (hff k (by have := List.mem_range.1 hk; omega)).2.2
    · have h1 : d = _ := congrArg Prod.fst hx
      rw [h1]
      dsimp only
      congr 1
      rw [List.map_map]
      refine List.map_congr_left fun k hk => ?_
      exact (hff k (by have := List.mem_range.1 hk; omega)).2.1

/-- a part's word is held against the reach -/
theorem part_weights {H : Type} (y : Pt) : y.word.size ∈ (parD (H := H) y).weights Tryd.prog 33 := by
  unfold parD
  rw [DataW.weights, Tryd.underlying33]
  simp [DataW.weightsEach, DataW.weights]
theorem parts_weights {H : Type} : ∀ (es : List Pt) (y : Pt), y ∈ es → y.word.size ∈ DataW.weightsAll Tryd.prog 33 (es.map (parD (H := H)))
  | [], _, h => by cases h
  | x :: l, y, h => by
    rw [List.map_cons, DataW.weightsAll, List.mem_append]
    rcases List.mem_cons.1 h with rfl | h
    · exact .inl (part_weights y)
    · exact .inr (parts_weights l y h)
theorem bytes28 : Tryd.prog.bytesOf 33 = 32 := by kernel_rfl
theorem sized_parts {H : Type} {ts : List TypeId} {ds : List (DataW H)} (h : (DataW.weightsEach Tryd.prog ts ds).all (· ≤ reachBytes) = true) {j : Nat} {es : List Pt} {S : List (DataW H)} (ht : ts[j]? = some 22) (hd : ds[j]? = some (.slice (es.map parD) S)) (y : Pt) (hy : y ∈ es) : y.word.size ≤ 140737488351232 := by
  have := List.all_eq_true.1 h _ (DataW.weights_mem_each ht hd y.word.size (by
    rw [DataW.weights, Tryd.underlying22]
    dsimp only
    rw [List.mem_cons, List.mem_append]
    exact .inr (.inl (parts_weights es y hy))))
  have h2 := of_decide_eq_true this
  simpa [reachBytes] using h2
end Go.Proofs.YtoffjpgobhcipaaDoor.Trm
