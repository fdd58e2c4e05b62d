/-
  Layer 3: edits as they lie in memory; contracts of span.mayStand, Check, check, grown and of the document's Stand and Check.
-/
import Derived.Test.YtigmakdfladjnaaRows
import Derived.WalkKit
import Derived.ProofKit
import Derived.OpenShut
import Derived.LoopTactic
import Derived.Lib.Hide
import Derived.Outline
import Derived.Deep.QuietTactic
import Derived.BigQuiet
import Derived.WalkSmall
namespace Go.Proofs.Ytigmakdfladjnaa
open Go.ChangeShapes Go.WideShapes Go.ChangeAt Go.RowKit
theorem ret_bool {a b : Bool} (h : a = b) : Ending.returned (.bool a) = .returned (.bool b) := by rw [h]
theorem ret_int {k : IntKind} {a b : Int} (h : a = b) : Ending.returned (.int k a) = .returned (.int k b) := by rw [h]
theorem below_chain {a b c : World} (h : Below a.heap.size a b) (k : Below b.heap.size b c) : Below a.heap.size a c := h.trans (k.mono h.size)
theorem cell_lt {w : World} {a : Addr} {v : Value} (h : w.cell? a = some v) : a.block < w.heap.size := by
  unfold World.cell? at h
  cases hb : w.heap[a.block]? with
  | none => rw [hb] at h; cases h
  | some o => exact (Array.getElem?_eq_some_iff.1 hb).1

/-- an edit -/
structure Ed where
  lo : Int
  hi : Int
  tx : ByteArray
/-- a slice that reads as edits -/
def Edits (w : World) (a : Option Addr) (n : Nat) (es : List Ed) : Prop :=
  es.length = n ∧ ∀ k x, es[k]? = some x → ∃ g off, a = some ⟨g, off, none⟩ ∧ w.cell? ⟨g, off + k * 3, none⟩ = some (.int .i64 x.lo) ∧ w.cell? ⟨g, off + k * 3 + 1, none⟩ = some (.int .i64 x.hi) ∧ w.cell? ⟨g, off + k * 3 + 2, none⟩ = some (.string x.tx)
theorem edits_below {w w' : World} {a : Option Addr} {n : Nat} {es : List Ed} (h : Edits w a n es) (hB : Below w.heap.size w w') : Edits w' a n es := by
  refine ⟨h.1, fun k x hk => ?_⟩
  obtain ⟨g, off, e, c0, c1, c2⟩ := h.2 k x hk
  exact ⟨g, off, e, (hB.cell (p := ⟨g, _, none⟩) (cell_lt c0)).trans c0, (hB.cell (p := ⟨g, _, none⟩) (cell_lt c1)).trans c1, (hB.cell (p := ⟨g, _, none⟩) (cell_lt c2)).trans c2⟩

/-- may edits stand behind e in n bytes? -/
def stands (n : Int) : Int → List Ed → Bool
  | _, [] => true
  | e, x :: l => decide (e ≤ x.lo ∧ x.lo ≤ x.hi ∧ x.hi ≤ n) && stands n x.hi l
theorem stands_at (n e : Int) (l : List Ed) (k : Nat) (x : Ed) (h : l[k]? = some x) : stands n e (l.drop k) = (decide (e ≤ x.lo ∧ x.lo ≤ x.hi ∧ x.hi ≤ n) && stands n x.hi (l.drop (k + 1))) := by
  obtain ⟨hk, he⟩ := List.getElem?_eq_some_iff.mp h
  rw [List.drop_eq_getElem_cons hk, he]; rfl

set_option maxHeartbeats 2000000 in
theorem mayStand_any (N : Int) (w : World) (a : Option Addr) (n cap : Nat) (es : List Ed) (he : Edits w a n es) (hn : n ≤ maxLen) :
    Calls Try.prog 24 #[.int .i64 N, .slice a n cap] w fun e w' => e = .returned (.bool (stands N 0 es)) ∧ Below w.heap.size w w' := by
  have HL := Lib.hid he.1
  unfold maxLen at hn
  go_enter Try.func24, Try.ntmps24
  go_wp2
  go_loopw [5, 10] (fun t i wr => ∃ (k : Nat) (E : Int), k ≤ n ∧ i = .int .i64 k ∧ t = .int .i64 E ∧ Below w.heap.size w wr ∧ Hid (stands N 0 es = stands N E (es.drop k))) (fun _ i _ => n - (intOf i).toNat)
  case atStart => exact ⟨0, 0, Nat.zero_le _, rfl, rfl, Below.refl _ _, Lib.hid (by simp)⟩
  case round =>
    obtain ⟨k, E, hk, rfl, rfl, hB, HR⟩ := hrel
    by_cases hlt : k < n
    · obtain ⟨x, hxk⟩ : ∃ x, es[k]? = some x := ⟨es[k]'(by have := HL.out; omega), List.getElem?_eq_getElem (by have := HL.out; omega)⟩
      obtain ⟨g, off, rfl, c0, c1, c2⟩ := (edits_below he hB).2 k x hxk
      have HA := Lib.hid (stands_at N E es k x hxk)
      have hs := hB.size
      clear hxk he
      by_cases h1 : x.lo < E
      · go_wp2
        go_ret
        exact ⟨ret_bool (by rw [HR.out, HA.out]; simp; omega), hB.alloc hs _⟩
      · by_cases h2 : x.hi < x.lo
        · go_wp2
          go_ret
          exact ⟨ret_bool (by rw [HR.out, HA.out]; simp; omega), hB.alloc hs _⟩
        · by_cases h3 : N < x.hi
          · go_wp2
            go_ret
            exact ⟨ret_bool (by rw [HR.out, HA.out]; simp; omega), hB.alloc hs _⟩
          · go_wp2
            go_roundw
            case rel => exact ⟨k + 1, x.hi, by omega, by go_num, rfl, hB.alloc hs _, Lib.hid (by rw [HR.out, HA.out]; simp; omega)⟩
            case measure => simp [intOf]; omega
    · go_wp2
      go_ret
      exact ⟨ret_bool (by rw [HR.out, List.drop_of_length_le (by have := HL.out; omega)]; rfl), hB⟩
end Go.Proofs.Ytigmakdfladjnaa
