/-
  Layer 4: lists of numbers in memory; contracts of lines.Count and Starts, of the document's Starts and Ints.
-/
import Derived.Test.YthbjiecckehckabRows
import Derived.Test.YthbjiecckehckabA
import Derived.WalkKit
import Derived.ProofKit
import Derived.OpenShut
import Derived.LoopTactic
import Derived.Lib.Hide
import Derived.Outline
import Derived.OwnWalk
import Derived.Laws.AppendOwn
import Derived.Laws.OwnMore
import Derived.Laws.MakeOwn
import Derived.Lib.Bytealg
import Derived.BigCall
import Derived.BigGuard
import Derived.Deep.Draws
import Derived.WalkSmall
import Derived.Great.BuildSlice
namespace Go.Proofs.Ythbjiecckehckab
open Go.ChangeShapes Go.WideShapes Go.ChangeAt Go.RowKit
theorem ret_bool {a b : Bool} (h : a = b) : Ending.returned (.bool a) = .returned (.bool b) := by rw [h]
theorem ret_int {k : IntKind} {a b : Int} (h : a = b) : Ending.returned (.int k a) = .returned (.int k b) := by rw [h]
theorem cell_lt {w : World} {a : Addr} {v : Value} (h : w.cell? a = some v) : a.block < w.heap.size := by
  unfold World.cell? at h
  cases hb : w.heap[a.block]? with
  | none => rw [hb] at h; cases h
  | some o => exact (Array.getElem?_eq_some_iff.1 hb).1

/-- numbers in a block -/
def Ns (w : World) (v : Value) (L : List Nat) : Prop :=
  ∃ g cap, v = .slice (some ⟨g, 0, none⟩) L.length cap ∧ L.length ≤ cap ∧ cap ≤ maxLen ∧ g < w.heap.size ∧ ∀ (k x : Nat), L[k]? = some x → w.cell? ⟨g, k, none⟩ = some (.int .i64 x)
theorem ns_below {w w' : World} {v : Value} {L : List Nat} (h : Ns w v L) (hB : Below w.heap.size w w') : Ns w' v L := by
  obtain ⟨g, cap, e, h1, h2, h3, h4⟩ := h
  exact ⟨g, cap, e, h1, h2, Nat.lt_of_lt_of_le h3 hB.size, fun k x hx => (hB.cell (p := ⟨g, k, none⟩) h3).trans (h4 k x hx)⟩
def nums (L : List Nat) : List Value := L.map fun (x : Nat) => .int .i64 (x : Int)
theorem ns_of {w : World} {base : Nat} {v : Value} {L : List Nat} (hp : 0 < L.length) (h : w.ownsRow base 3 1 v L.length (nums L)) : Ns w v L := by
  rcases h.2 with ⟨rfl, h0⟩ | ⟨g, cap, cur, rfl, hb, hg, hn, hm, hs, ht⟩
  · omega
  · refine ⟨g, cap, rfl, hn, hm, (Array.getElem?_eq_some_iff.1 hg).1, fun k x hx => ?_⟩
    have hk : k < L.length := (List.getElem?_eq_some_iff.1 hx).1
    have := h.cells (g := g) rfl k (.int .i64 x) (by simp [nums, hx])
    by_cases h0 : k = 0
    · subst h0; simpa [Addr.add] using this
    · simpa [Addr.add, h0] using this
theorem info3 : (Try.prog.info? 3).map (fun i => (i.zero, i.size, i.bytes)) = some (some (.int .i64 0), 1, 8) := by kernel_rfl
theorem one_new (w : World) (x : Value) (t : TypeId) : ∀ j u, [x][j]? = some u → (w.alloc (.cells #[x] t)).cell? ((⟨w.heap.size, 0, none⟩ : Addr).add j) = some u := by
  intro j u hj
  match j, hj with
  | 0, hj => simp at hj; subst hj; simp [Addr.add]
  | j + 1, hj => simp at hj
theorem grown_of_below {w w' : World} (h : Below w.heap.size w w') : w.grownBy w' none := ⟨h.os, h.tape, h.output, h.size, fun k hk _ => h.block k hk⟩

/-- 'make([]int, 1, n)' -/
theorem wpList_make_one {P : Program} (w : World) {ops : Array Oper} {rest : List Oper} {o : Oper} {a : Act} {Q : Exit → Act → World → Prop}
    (hg : o.guard = none) (l c : Operand) (t : TypeId) (hop : o.op = Op.makeSlice t l c)
    (base : Nat) (e : TypeId) (i : TypeInfo) (z : Value) (h1 : P.underlying t = some (.slice e)) (h2 : P.info? e = some i) (h3 : i.zero = some z) (h4 : i.size = 1) (hz : z.cells = #[z])
    (kl kc : IntKind) (C : Int) (n : Nat) (hl : a.eval l = .int kl 1) (hc : a.eval c = .int kc C) (hC : C = (n : Int)) (hn : 1 ≤ n) (b2 : i.bytes * n ≤ 281474976710656) (b3 : n ≤ maxLen) (b4 : base ≤ w.heap.size)
    (hK : ∀ w', w'.ownsRow base e 1 (.slice (some ⟨w.heap.size, 0, none⟩) 1 n) 1 [z] → w.grownBy w' none → wpList P ops Q rest (a.put o.dst (.slice (some ⟨w.heap.size, 0, none⟩) 1 n)) w') :
    wpList P ops Q (o :: rest) a w := by
  refine wpList_plain hg fun K hK' => ?_
  have h63' : (n : Int) ≤ 9223372036854775807 := by
    have h := b3
    simp [maxLen] at h
    omega
  have hb' : (i.bytes : Int) * (n : Int) ≤ 281474976710656 := by
    have h : ((i.bytes * n : Nat) : Int) ≤ 281474976710656 := by omega
    rwa [Int.natCast_mul] at h
  have hrun := run_make (P := P) w t e i z h1 h2 h3 kl kc 1 n (by omega) (by omega) hb' h63'
  subst hC
  unfold Oper.wp
  simp only [Int.toNat_natCast, Int.toNat_one, h4, Nat.mul_one, hz] at hrun
  simp [execOp, hop, hl, hc, hrun, Result.andThen]
  refine hK' _ _ ?_
  refine hK _ ⟨by simp, .inr ⟨w.heap.size, n, madeCells #[z] n, rfl, b4, heap_alloc_new w _, hn, b3, by simp [size_madeCells], ?_⟩⟩ (World.grownBy_alloc w _ none)
  rw [toList_madeCells_one]
  obtain ⟨m, rfl⟩ : ∃ m, n = m + 1 := ⟨n - 1, by omega⟩
  simp [List.replicate_succ]

set_option maxRecDepth 100000 in
theorem count_one (s : ByteArray) (w : World) :
    Calls Try.prog 21 #[.string s, .string ⟨#[10]⟩] w fun e w' => e = .returned (.int .i64 ((s.data.toList.count 10 : Nat))) ∧ w' = w := by
  go_enter Try.func21, Try.ntmps21
  go_wp2
  rw [run_callFunc_extern Try.func26 (by kernel_rfl) (by kernel_rfl) (by kernel_rfl) (e := Extern.BytealgCount.count) (by kernel_rfl), Lib.run_countString]
  simp only [Result.andThen]
  rw [Oper.upon_value]
  go_wp2
  go_ret
  exact ⟨rfl, rfl⟩
theorem count_le (s : ByteArray) : s.data.toList.count 10 ≤ s.size := List.count_le_length
theorem count_any (s : ByteArray) (hs : s.size < maxLen) (w : World) :
    Calls Try.prog 14 #[.string s] w fun e w' => e = .returned (.int .i64 (((s.data.toList.count 10 + 1 : Nat)))) ∧ w' = w := by
  have hc := count_le s
  unfold maxLen at hs
  generalize hn : s.data.toList.count 10 = n at hc
  have HN := Lib.hid hn
  clear hn
  go_enter Try.func14, Try.ntmps14
  go_wp2_with (first
    | (go_at_call 21; refine (count_one s w).mono ?_; rintro e w' ⟨rfl, rfl⟩; rw [HN.out]))
  go_ret
  exact ⟨ret_int (by omega), rfl⟩
end Go.Proofs.Ythbjiecckehckab
