/-
  Layer 10: an argument that is a list of nodes, opened to cells.
-/
import Derived.Test.YtdlpminekojahaaA
import Derived.Deep.Slices
import Derived.Deep.Fields
import Derived.ChangeArms
import Derived.SizedLaws
namespace Go.Proofs.Ytdlpminekojahaa
open Go.ChangeShapes Go.WideShapes Go.ChangeAt Go.RowKit
open Go.Deep (open_slice)

/-- a node as a datum -/
def ndD {H : Type} (y : Nd) : DataW H := .agg [.lit (.int .u8 y.kind), .lit (.int .i64 y.kids), .lit (.int .i64 y.word), .lit (.int .i64 y.lo), .lit (.int .i64 y.hi)]
/-- what is known of a node that came in -/
def Fits (y : Nd) : Prop := (-9223372036854775808 ≤ y.kids ∧ y.kids ≤ 9223372036854775807) ∧ (-9223372036854775808 ≤ y.lo ∧ y.lo ≤ 9223372036854775807) ∧ (-9223372036854775808 ≤ y.hi ∧ y.hi ≤ 9223372036854775807)

theorem cells35 : Try.prog.cellsOf 35 = 5 := by kernel_rfl
theorem open_nd {H : Type} {enc : TypeId × Value → H} {W : World} {n : Nat} {cs : List Value} {x : DataW H × List MemPlace} (h : DataW.trod enc Try.prog W 0 (fun _ => true) true n 35 cs = some x) :
    ∃ y : Nd, cs = [.int .u8 y.kind, .int .i64 y.kids, .int .i64 y.word, .int .i64 y.lo, .int .i64 y.hi] ∧ x.1 = ndD y ∧ Fits y := by
  obtain ⟨xs, m, _, hx, hl, hxl, hf⟩ := DataW.trod_struct Try.underlying35 h
  rw [cells35] at hl
  have c3 : Try.prog.cellsOf 3 = 1 := by kernel_rfl
  have c5 : Try.prog.cellsOf 5 = 1 := by kernel_rfl
  have f0 : DataW.trod enc Try.prog W 0 (fun _ => true) true m 5 ((cs.drop 0).take (Try.prog.cellsOf 5)) = xs[0]? := hf 0 _ rfl
  have f1 : DataW.trod enc Try.prog W 0 (fun _ => true) true m 3 ((cs.drop 1).take (Try.prog.cellsOf 3)) = xs[1]? := hf 1 _ rfl
  have f2 : DataW.trod enc Try.prog W 0 (fun _ => true) true m 3 ((cs.drop 2).take (Try.prog.cellsOf 3)) = xs[2]? := hf 2 _ rfl
  have f3 : DataW.trod enc Try.prog W 0 (fun _ => true) true m 3 ((cs.drop 3).take (Try.prog.cellsOf 3)) = xs[3]? := hf 3 _ rfl
  have f4 : DataW.trod enc Try.prog W 0 (fun _ => true) true m 3 ((cs.drop 4).take (Try.prog.cellsOf 3)) = xs[4]? := hf 4 _ rfl
  rw [c3] at f1 f2 f3 f4
  rw [c5] at f0
  match cs, hl with
  | [v0, v1, v2, v3, v4], _ =>
    match xs, hxl with
    | [y0, y1, y2, y3, y4], _ =>
      obtain ⟨z0, e0, r0, b0⟩ := DataW.trod_int Try.underlying5 (x := y0) f0
      obtain ⟨z1, e1, r1, b1⟩ := DataW.trod_int Try.underlying3 (x := y1) f1
      obtain ⟨z2, e2, r2, b2⟩ := DataW.trod_int Try.underlying3 (x := y2) f2
      obtain ⟨z3, e3, r3, b3⟩ := DataW.trod_int Try.underlying3 (x := y3) f3
      obtain ⟨z4, e4, r4, b4⟩ := DataW.trod_int Try.underlying3 (x := y4) f4
      simp at e0 e1 e2 e3 e4
      subst e0 e1 e2 e3 e4 r0 r1 r2 r3 r4
      have hz : 0 ≤ z0 := by
        have h : (decide (0 ≤ z0) && decide (z0 ≤ 255)) = true := b0
        simp only [Bool.and_eq_true, decide_eq_true_eq] at h
        exact h.1
      obtain ⟨k, rfl⟩ : ∃ k : Nat, z0 = k := ⟨z0.toNat, by omega⟩
      refine ⟨⟨k, z1, z2, z3, z4⟩, rfl, by rw [hx]; rfl, bounds_i64 b1, bounds_i64 b3, bounds_i64 b4⟩

theorem add_add (a : Addr) (i j : Nat) : (a.add i).add j = a.add (i + j) := by
  unfold Addr.add
  by_cases h1 : i = 0
  · subst h1; simp
  · by_cases h2 : j = 0
    · subst h2; simp [h1]
    · simp [h1, h2]; omega
theorem plain_of {w : World} {a : Addr} {v : Value} (h : w.cell? a = some v) : a = ⟨a.block, a.off, none⟩ := by
  obtain ⟨b, o, s⟩ := a
  cases s with
  | none => rfl
  | some s =>
    unfold World.cell? at h
    split at h
    · simp at h
    · cases h
theorem open_nodes {H : Type} {enc : TypeId × Value → H} {W : World} {v : Value} {d : DataW H} {p : List MemPlace} (h : DataW.Trod enc Try.prog W 0 (fun _ => true) true 22 v d p) (hs : ∃ a n c, v = .slice a n c) :
    ∃ (a : Option Addr) (len cap : Nat) (es : List Nd), v = .slice a len cap ∧ Nodes W a len es ∧ len ≤ cap ∧ cap ≤ maxLen ∧ (∀ y ∈ es, Fits y) ∧
      ((d = .nil ∧ es = [] ∧ cap = 0) ∨ ∃ S, d = .slice (es.map ndD) S ∧ es.length + S.length = cap) := by
  obtain ⟨a0, n0, c0, rfl⟩ := hs
  obtain ⟨fuel, hf⟩ := h
  rcases open_slice Try.underlying22 hf with ⟨hcs, hx⟩ | ⟨a, len, cap, m, n, D, Pl, hcs, _, hl, hm, hmm, hx, hi⟩
  · simp [Value.cells] at hcs
    obtain ⟨rfl, rfl, rfl⟩ := hcs
    refine ⟨none, 0, 0, [], rfl, ⟨rfl, fun k x hk => by simp at hk⟩, Nat.le_refl _, Nat.zero_le _, fun y hy => (by cases hy), .inl ⟨(congrArg Prod.fst hx : _), rfl, rfl⟩⟩
  · simp [Value.cells] at hcs
    obtain ⟨rfl, rfl, rfl⟩ := hcs
    rw [if_pos rfl] at hmm
    subst hmm
    have hex : ∀ i, ∃ y : Nd, i < m → (W.cell? (a.add (i * 5)) = some (.int .u8 y.kind) ∧ W.cell? (a.add (i * 5 + 1)) = some (.int .i64 y.kids) ∧ W.cell? (a.add (i * 5 + 2)) = some (.int .i64 y.word) ∧ W.cell? (a.add (i * 5 + 3)) = some (.int .i64 y.lo) ∧ W.cell? (a.add (i * 5 + 4)) = some (.int .i64 y.hi)) ∧ D i = ndD y ∧ Fits y := by
      intro i
      by_cases him : i < m
      · obtain ⟨cs', hc, ht⟩ := hi i him
        rw [cells35] at hc
        obtain ⟨y, rfl, hd, hfit⟩ := open_nd ht
        obtain ⟨_, _, hat⟩ := World.cells?_some hc
        have a0 := hat 0 (by omega)
        have a1 := hat 1 (by omega)
        have a2 := hat 2 (by omega)
        have a3 := hat 3 (by omega)
        have a4 := hat 4 (by omega)
        rw [add_add] at a0 a1 a2 a3 a4
        exact ⟨y, fun _ => ⟨⟨a0, a1, a2, a3, a4⟩, hd, hfit⟩⟩
      · exact ⟨⟨0, 0, 0, 0, 0⟩, fun h => absurd h him⟩
    obtain ⟨f, hff⟩ := Classical.skolem.1 hex
    refine ⟨some a, n0, m, (List.range n0).map f, rfl, ⟨by simp, fun k x hk => ?_⟩, hl, hm, fun y hy => ?_, .inr ⟨(List.range (m - n0)).map fun j => D (n0 + j), ?_, by simp; omega⟩⟩
    · have hkl : k < n0 := by have := (List.getElem?_eq_some_iff.1 hk).1; simpa using this
      have hx' : f k = x := by
        rw [List.getElem?_map, List.getElem?_range hkl] at hk
        simpa using hk
      subst hx'
      obtain ⟨⟨c0, c1, c2, c3, c4⟩, _, _⟩ := hff k (by omega)
      obtain ⟨⟨z0, _, _, _, _⟩, _, _⟩ := hff 0 (by omega)
      have ha : a.add (0 * 5) = a := by simp [Addr.add]
      rw [ha] at z0
      have hpl := plain_of z0
      refine ⟨a.block, a.off, by rw [← hpl], ?_, ?_, ?_, ?_, ?_⟩
      · rw [hpl] at c0; rw [add_plain] at c0; exact c0
      · rw [hpl] at c1; rw [add_plain] at c1; rw [Nat.add_assoc]; exact c1
      · rw [hpl] at c2; rw [add_plain] at c2; rw [Nat.add_assoc]; exact c2
      · rw [hpl] at c3; rw [add_plain] at c3; rw [Nat.add_assoc]; exact c3
      · rw [hpl] at c4; rw [add_plain] at c4; rw [Nat.add_assoc]; exact c4
    · obtain ⟨k, hk, rfl⟩ := List.mem_map.1 hy
      exact (hff k (by have := List.mem_range.1 hk; omega)).2.2
    · have h1 : d = _ := congrArg Prod.fst hx
      rw [h1]
      dsimp only
      congr 1
      rw [List.map_map]
      refine List.map_congr_left fun k hk => ?_
      exact (hff k (by have := List.mem_range.1 hk; omega)).2.1

end Go.Proofs.Ytdlpminekojahaa
