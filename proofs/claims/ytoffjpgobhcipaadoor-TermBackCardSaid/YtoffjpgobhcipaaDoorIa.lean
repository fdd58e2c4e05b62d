/-
  Layer 11: parts as they lie in memory; contracts of woods.End, Trees, and of the document's End, Trees, Well.
-/
import Derived.Test.YtoffjpgobhcipaaDoorRows
import Derived.Test.YtoffjpgobhcipaaDoorPz
import Derived.WalkKit
import Derived.ProofKit
import Derived.OpenShut
import Derived.LoopTactic
import Derived.Lib.Hide
import Derived.Outline
import Derived.Deep.QuietTactic
import Derived.BigQuiet
import Derived.WalkSmall
import Derived.Below
import Derived.Laws.Rows
namespace Go.Proofs.YtoffjpgobhcipaaDoor.Trm
open Go.ChangeShapes Go.WideShapes Go.ChangeAt Go.RowKit
theorem ret_bool {a b : Bool} (h : a = b) : Ending.returned (.bool a) = .returned (.bool b) := by rw [h]
theorem ret_int {k : IntKind} {a b : Int} (h : a = b) : Ending.returned (.int k a) = .returned (.int k b) := by rw [h]
theorem below_chain {a b c : World} (h : Below a.heap.size a b) (k : Below b.heap.size b c) : Below a.heap.size a c := h.trans (k.mono h.size)
theorem cell_lt {w : World} {a : Addr} {v : Value} (h : w.cell? a = some v) : a.block < w.heap.size := by
  unfold World.cell? at h
  cases hb : w.heap[a.block]? with
  | none => rw [hb] at h; cases h
  | some o => exact (Array.getElem?_eq_some_iff.1 hb).1

/-- a slice that reads as parts -/
def Parts (w : World) (a : Option Addr) (n : Nat) (l : List Pt) : Prop :=
  l.length = n ∧ ∀ k x, l[k]? = some x → ∃ g off, a = some ⟨g, off, none⟩ ∧ w.cell? ⟨g, off + k * 3, none⟩ = some (.int .u8 x.kind) ∧ w.cell? ⟨g, off + k * 3 + 1, none⟩ = some (.int .i64 x.kids) ∧
    w.cell? ⟨g, off + k * 3 + 2, none⟩ = some (.string x.word)
theorem parts_below {w w' : World} {a : Option Addr} {n : Nat} {l : List Pt} (h : Parts w a n l) (hB : Below w.heap.size w w') : Parts w' a n l := by
  refine ⟨h.1, fun k x hk => ?_⟩
  obtain ⟨g, off, e, c0, c1, c2⟩ := h.2 k x hk
  exact ⟨g, off, e, (hB.cell (p := ⟨g, _, none⟩) (cell_lt c0)).trans c0, (hB.cell (p := ⟨g, _, none⟩) (cell_lt c1)).trans c1, (hB.cell (p := ⟨g, _, none⟩) (cell_lt c2)).trans c2⟩
theorem parts_some {w : World} {a : Option Addr} {n : Nat} {l : List Pt} (h : Parts w a n l) {k : Nat} (hk : k < n) : l[k]? = some (l.getD k pt0) := by
  have : k < l.length := by rw [h.1]; exact hk
  rw [List.getElem?_eq_getElem this]; simp [List.getD, List.getElem?_eq_getElem this]
/-- bounds on a list of parts that came in -/
def KidsFit (l : List Pt) : Prop := ∀ x ∈ l, -9223372036854775808 ≤ x.kids ∧ x.kids ≤ 9223372036854775807
end Go.Proofs.YtoffjpgobhcipaaDoor.Trm
