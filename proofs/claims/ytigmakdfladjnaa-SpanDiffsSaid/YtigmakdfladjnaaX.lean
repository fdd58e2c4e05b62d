/-
  Layer 3: an argument that is a list of edits, opened to cells; what its reach and its bulk say.
-/
import Derived.Test.YtigmakdfladjnaaW
import Derived.Deep.Slices
import Derived.Deep.Fields
import Derived.ChangeArms
import Derived.SizedLaws
import Derived.SizedLaws
namespace Go.Proofs.Ytigmakdfladjnaa
open Go.ChangeShapes Go.WideShapes Go.ChangeAt Go.RowKit
open Go.Deep (open_slice)

/-- an edit as a datum -/
def edD {H : Type} (y : Ed) : DataW H := .agg [.lit (.int .i64 y.lo), .lit (.int .i64 y.hi), .lit (.string y.tx.data.toList)]
/-- what is known of an edit that came in -/
def Fits (y : Ed) : Prop := y.tx.size ≤ maxLen ∧ (-9223372036854775808 ≤ y.lo ∧ y.lo ≤ 9223372036854775807) ∧ (-9223372036854775808 ≤ y.hi ∧ y.hi ≤ 9223372036854775807)

theorem cells36 : Try.prog.cellsOf 36 = 3 := by kernel_rfl
theorem one_of_three {cs : List Value} (hl : cs.length = 3) (j : Nat) (hj : j < 3) : ∃ v, (cs.drop j).take 1 = [v] ∧ cs[j]? = some v := by
  refine ⟨cs[j]'(by omega), ?_, List.getElem?_eq_getElem (by omega)⟩
  rw [List.drop_eq_getElem_cons (by omega)]; rfl
theorem open_ed {H : Type} {enc : TypeId × Value → H} {W : World} {n : Nat} {cs : List Value} {x : DataW H × List MemPlace} (h : DataW.trod enc Try.prog W 0 (fun _ => true) true n 36 cs = some x) :
    ∃ y : Ed, cs = [.int .i64 y.lo, .int .i64 y.hi, .string y.tx] ∧ x.1 = edD y ∧ Fits y := by
  obtain ⟨xs, m, _, hx, hl, hxl, hf⟩ := DataW.trod_struct Try.underlying36 h
  rw [cells36] at hl
  have c3 : Try.prog.cellsOf 3 = 1 := by kernel_rfl
  have c9 : Try.prog.cellsOf 9 = 1 := by kernel_rfl
  have f0 : DataW.trod enc Try.prog W 0 (fun _ => true) true m 3 ((cs.drop 0).take (Try.prog.cellsOf 3)) = xs[0]? := hf 0 _ rfl
  have f1 : DataW.trod enc Try.prog W 0 (fun _ => true) true m 3 ((cs.drop 1).take (Try.prog.cellsOf 3)) = xs[1]? := hf 1 _ rfl
  have f2 : DataW.trod enc Try.prog W 0 (fun _ => true) true m 9 ((cs.drop 2).take (Try.prog.cellsOf 9)) = xs[2]? := hf 2 _ rfl

  rw [c3] at f0 f1
  rw [c9] at f2
  match cs, hl with
  | [v0, v1, v2], _ =>
    match xs, hxl with
    | [y0, y1, y2], _ =>
      obtain ⟨z0, e0, r0, b0⟩ := DataW.trod_int Try.underlying3 (x := y0) f0
      obtain ⟨z1, e1, r1, b1⟩ := DataW.trod_int Try.underlying3 (x := y1) f1
      obtain ⟨z2, e2, r2, b2⟩ := DataW.trod_string Try.underlying9 (x := y2) f2
      simp at e0 e1 e2
      subst e0 e1 e2 r0 r1 r2
      refine ⟨⟨z0, z1, z2⟩, rfl, by rw [hx]; rfl, b2, bounds_i64 b0, bounds_i64 b1⟩

theorem add_add (a : Addr) (i j : Nat) : (a.add i).add j = a.add (i + j) := by
  unfold Addr.add
  by_cases h1 : i = 0
  · subst h1; simp
  · by_cases h2 : j = 0
    · subst h2; simp [h1]
    · simp [h1, h2]; omega
theorem plain_of {w : World} {a : Addr} {v : Value} (h : w.cell? a = some v) : a = ⟨a.block, a.off, none⟩ := by
  obtain ⟨b, o, s⟩ := a
  cases s with
  | none => rfl
  | some s =>
    unfold World.cell? at h
    split at h
    · simp at h
    · cases h
theorem open_edits {H : Type} {enc : TypeId × Value → H} {W : World} {v : Value} {d : DataW H} {p : List MemPlace} (h : DataW.Trod enc Try.prog W 0 (fun _ => true) true 22 v d p) (hs : ∃ a n c, v = .slice a n c) :
    ∃ (a : Option Addr) (len cap : Nat) (es : List Ed), v = .slice a len cap ∧ Edits W a len es ∧ len ≤ cap ∧ cap ≤ maxLen ∧ (∀ y ∈ es, Fits y) ∧
      ((d = .nil ∧ es = [] ∧ cap = 0) ∨ ∃ S, d = .slice (es.map edD) S ∧ es.length + S.length = cap) := by
  obtain ⟨a0, n0, c0, rfl⟩ := hs
  obtain ⟨fuel, hf⟩ := h
  rcases open_slice Try.underlying22 hf with ⟨hcs, hx⟩ | ⟨a, len, cap, m, n, D, Pl, hcs, _, hl, hm, hmm, hx, hi⟩
  · simp [Value.cells] at hcs
    obtain ⟨rfl, rfl, rfl⟩ := hcs
    refine ⟨none, 0, 0, [], rfl, ⟨rfl, fun k x hk => by simp at hk⟩, Nat.le_refl _, Nat.zero_le _, fun y hy => (by cases hy), .inl ⟨(congrArg Prod.fst hx : _), rfl, rfl⟩⟩
  · simp [Value.cells] at hcs
    obtain ⟨rfl, rfl, rfl⟩ := hcs
    rw [if_pos rfl] at hmm
    subst hmm
    have hex : ∀ i, ∃ y : Ed, i < m → (W.cell? (a.add (i * 3)) = some (.int .i64 y.lo) ∧ W.cell? (a.add (i * 3 + 1)) = some (.int .i64 y.hi) ∧ W.cell? (a.add (i * 3 + 2)) = some (.string y.tx)) ∧ D i = edD y ∧ Fits y := by
      intro i
      by_cases him : i < m
      · obtain ⟨cs', hc, ht⟩ := hi i him
        rw [cells36] at hc
        obtain ⟨y, rfl, hd, hfit⟩ := open_ed ht
        obtain ⟨_, _, hat⟩ := World.cells?_some hc
        have a0 := hat 0 (by omega)
        have a1 := hat 1 (by omega)
        have a2 := hat 2 (by omega)
        rw [add_add] at a0 a1 a2
        exact ⟨y, fun _ => ⟨⟨a0, a1, a2⟩, hd, hfit⟩⟩
      · exact ⟨⟨0, 0, ⟨#[]⟩⟩, fun h => absurd h him⟩
    obtain ⟨f, hff⟩ := Classical.skolem.1 hex
    refine ⟨some a, n0, m, (List.range n0).map f, rfl, ⟨by simp, fun k x hk => ?_⟩, hl, hm, fun y hy => ?_, .inr ⟨(List.range (m - n0)).map fun j => D (n0 + j), ?_, by simp; omega⟩⟩
    · have hkl : k < n0 := by have := (List.getElem?_eq_some_iff.1 hk).1; simpa using this
      have hx' : f k = x := by
        rw [List.getElem?_map, List.getElem?_range hkl] at hk
        simpa using hk
      subst hx'
      obtain ⟨⟨c0, c1, c2⟩, _, _⟩ := hff k (by omega)
      obtain ⟨⟨z0, _, _⟩, _, _⟩ := hff 0 (by omega)
      have ha : a.add (0 * 3) = a := by simp [Addr.add]
      rw [ha] at z0
      have hpl := plain_of z0
      refine ⟨a.block, a.off, by rw [← hpl], ?_, ?_, ?_⟩
      · rw [hpl] at c0; rw [add_plain] at c0; exact c0
      · rw [hpl] at c1; rw [add_plain] at c1; rw [Nat.add_assoc]; exact c1
      · rw [hpl] at c2; rw [add_plain] at c2; rw [Nat.add_assoc]; exact c2
    · obtain ⟨k, hk, rfl⟩ := List.mem_map.1 hy
      exact (hff k (by have := List.mem_range.1 hk; omega)).2.2
    · have h1 : d = _ := congrArg Prod.fst hx
      rw [h1]
      dsimp only
      congr 1
      rw [List.map_map]
      refine List.map_congr_left fun k hk => ?_
      exact (hff k (by have := List.mem_range.1 hk; omega)).2.1

/-- an edit's text is held against the reach -/
theorem ed_weights {H : Type} (y : Ed) : y.tx.size ∈ (edD (H := H) y).weights Try.prog 36 := by
  unfold edD
  rw [DataW.weights, Try.underlying36]
  simp [DataW.weightsEach, DataW.weights]
theorem eds_weights {H : Type} : ∀ (es : List Ed) (y : Ed), y ∈ es → y.tx.size ∈ DataW.weightsAll Try.prog 36 (es.map (edD (H := H)))
  | [], _, h => by cases h
  | x :: l, y, h => by
    rw [List.map_cons, DataW.weightsAll, List.mem_append]
    rcases List.mem_cons.1 h with rfl | h
    · exact .inl (ed_weights y)
    · exact .inr (eds_weights l y h)
theorem sized_edits {H : Type} {ts : List TypeId} {ds : List (DataW H)} (h : (DataW.weightsEach Try.prog ts ds).all (· ≤ reachBytes) = true) {j : Nat} {es : List Ed} {S : List (DataW H)} (ht : ts[j]? = some 22) (hd : ds[j]? = some (.slice (es.map edD) S)) (y : Ed) (hy : y ∈ es) : y.tx.size ≤ 140737488351232 := by
  have := List.all_eq_true.1 h _ (DataW.weights_mem_each ht hd y.tx.size (by
    rw [DataW.weights, Try.underlying22]
    dsimp only
    rw [List.mem_cons, List.mem_append]
    exact .inr (.inl (eds_weights es y hy))))
  have h2 := of_decide_eq_true this
  simpa [reachBytes] using h2
end Go.Proofs.Ytigmakdfladjnaa
