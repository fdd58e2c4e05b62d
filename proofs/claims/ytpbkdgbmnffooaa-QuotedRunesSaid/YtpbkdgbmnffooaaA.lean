/-
  Layer 6: a reader as it lies in memory; contracts of quoted.mark and of the reader's number.
-/
import Derived.Test.YtpbkdgbmnffooaaRd
import Derived.Test.YtpbkdgbmnffooaaRj
import Derived.Deep.QuietTactic
import Derived.BigQuiet
import Derived.Deep.LoopGhost
import Derived.Deep.CutRange
import Derived.Deep.DeepCutAuto
import Derived.IntWalk
import Derived.Laws.AppendOwn
import Derived.Laws.OwnMore
import Derived.Laws.BytesString
import Derived.Laws.Cells
import Derived.Great.BuildSlice
namespace Go.Proofs.Ytpbkdgbmnffooaa
open Go.ChangeShapes Go.WideShapes Go.ChangeAt Go.RowKit

def bvals (l : List UInt8) : List Value := l.map fun c => Value.int .u8 (c.toNat : Int)
/-- a reader's three cells -/
structure Rd (w : World) (b : Nat) (s : ByteArray) (k : Nat) (v : Value) (T : List UInt8) : Prop where
  row : w.heap[b]? = some (.cells #[.string s, .int .i64 k, v] 39 (0, 0))
  own : w.ownsRow (b + 1) 5 1 v T.length (bvals T)
  hk : k ≤ s.size
theorem Rd.lt {w : World} {b : Nat} {s : ByteArray} {k : Nat} {v : Value} {T : List UInt8} (h : Rd w b s k v T) : b < w.heap.size := (Array.getElem?_eq_some_iff.1 h.row).1
theorem Rd.c0 {w : World} {b : Nat} {s : ByteArray} {k : Nat} {v : Value} {T : List UInt8} (h : Rd w b s k v T) : w.cell? ⟨b, 0, none⟩ = some (.string s) := by
  unfold World.cell?; simp only [h.row]; rfl
theorem Rd.c1 {w : World} {b : Nat} {s : ByteArray} {k : Nat} {v : Value} {T : List UInt8} (h : Rd w b s k v T) : w.cell? ⟨b, 1, none⟩ = some (.int .i64 k) := by
  unfold World.cell?; simp only [h.row]; rfl
theorem Rd.c2 {w : World} {b : Nat} {s : ByteArray} {k : Nat} {v : Value} {T : List UInt8} (h : Rd w b s k v T) : w.cell? ⟨b, 2, none⟩ = some v := by
  unfold World.cell?; simp only [h.row]; rfl
theorem Rd.f {w : World} {b : Nat} {s : ByteArray} {k : Nat} {v : Value} {T : List UInt8} (h : Rd w b s k v T) (o : Nat) : w.frozen? ⟨b, o, none⟩ = false := by
  unfold World.frozen?; simp only [h.row]; rfl
theorem Rd.keep {w w' : World} {b : Nat} {s : ByteArray} {k : Nat} {v : Value} {T : List UInt8} (h : Rd w b s k v T) (hh : w'.heap = w.heap) : Rd w' b s k v T := by
  obtain ⟨h1, h2, h3⟩ := h
  refine ⟨by rw [hh]; exact h1, ⟨h2.1, ?_⟩, h3⟩
  rcases h2.2 with h | ⟨g, cap, cur, e, hb, hg, r⟩
  · exact .inl h
  · exact .inr ⟨g, cap, cur, e, hb, by rw [hh]; exact hg, r⟩
theorem Rd.drewN {w : World} {b : Nat} {s : ByteArray} {k : Nat} {v : Value} {T : List UInt8} (h : Rd w b s k v T) (n : Nat) : Rd (w.drewN n) b s k v T := h.keep rfl
theorem below_drewN {B : Nat} {a w : World} (h : Below B a w) (n : Nat) : Below B a (w.drewN n) := h.trans ⟨rfl, rfl, rfl, Nat.le_refl _, fun _ _ => rfl⟩
theorem Rd.move {w : World} {b : Nat} {s : ByteArray} {k : Nat} {v : Value} {T : List UInt8} (h : Rd w b s k v T) (k' : Nat) (hk : k' ≤ s.size) : Rd (w.setCell ⟨b, 1, none⟩ (.int .i64 k')) b s k' v T := by
  obtain ⟨h1, h2, h3⟩ := h
  refine ⟨?_, ⟨h2.1, ?_⟩, hk⟩
  · rw [heap_setCell_same w b 1 _ 39 _ h1]; rfl
  · rcases h2.2 with h | ⟨g, cap, cur, e, hb, hg, r⟩
    · exact .inl h
    · refine .inr ⟨g, cap, cur, e, hb, ?_, r⟩
      rw [Below.heap_setCell _ _ _ _ (by show g ≠ b; omega)]; exact hg
theorem at_of (s : ByteArray) (k : Nat) (h : k < s.size) : s.data.toList[k]? = some s[k] := by
  rw [List.getElem?_eq_getElem (by simpa using h)]; simp [ByteArray.getElem_eq_getElem_data]
theorem bytes_eq (a b : UInt8) : ((a.toNat : Int) == (b.toNat : Int)) = decide (a = b) := by
  rw [Bool.eq_iff_iff, beq_iff_eq, decide_eq_true_iff]
  exact ⟨fun h => UInt8.toNat_inj.1 (by omega), fun h => by rw [h]⟩
theorem bytes_n (a b : UInt8) (n : Int) (hn : (b.toNat : Int) = n) : ((a.toNat : Int) == n) = decide (a = b) := by
  rw [← hn]; exact bytes_eq a b

/-- is a byte a mark? -/
def mark? (c : UInt8) : Bool := decide (c = 39) || decide (c = 34) || decide (c = 96)
theorem mark_any (c : UInt8) (w : World) :
    Calls Try.prog 19 #[.int .u8 c.toNat] w fun e w' => e = .returned (.bool (mark? c)) ∧ w' = w := by
  have b1 := bytes_n c 39 39 rfl
  have b2 := bytes_n c 34 34 rfl
  have b3 := bytes_n c 96 96 rfl
  unfold mark?
  go_enter Try.func19, Try.ntmps19
  cases h1 : decide (c = 39) <;> cases h2 : decide (c = 34) <;> cases h3 : decide (c = 96) <;> rw [h1] at b1 <;> rw [h2] at b2 <;> rw [h3] at b3
  all_goals
    (go_wp2
     go_ret
     exact ⟨rfl, rfl⟩)

/-- so many digits of a base at the head of a text: their number, and what is left -/
def numOf (base : Nat) : Nat → Nat → List UInt8 → Option (Nat × List UInt8)
  | 0, n, l => some (n, l)
  | _ + 1, _, [] => none
  | d + 1, n, c :: t => if 0 ≤ hexOf c.toNat ∧ hexOf c.toNat < base then numOf base d (n * base + (hexOf c.toNat).toNat) t else none
theorem hex_le (r : Int) : hexOf r ≤ 15 := by
  unfold hexOf; split
  · omega
  · split
    · omega
    · split <;> omega
end Go.Proofs.Ytpbkdgbmnffooaa
