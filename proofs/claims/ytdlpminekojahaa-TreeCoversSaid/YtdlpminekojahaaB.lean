/-
  Layer 10: rows of the stack; contract of tree.fits.
-/
import Derived.Test.YtdlpminekojahaaA
namespace Go.Proofs.Ytdlpminekojahaa
open Go.ChangeShapes Go.WideShapes Go.ChangeAt Go.RowKit

/-- a row of the stack, as it lies in memory -/
structure Rm where
  nd : Nd
  left : Int
  fr : Int
def Rm.rw (r : Rm) : Rw := ⟨r.nd.word, r.nd.hi, r.fr, r.left.toNat⟩
def ndV (x : Nd) : List Value := [.int .u8 x.kind, .int .i64 x.kids, .int .i64 x.word, .int .i64 x.lo, .int .i64 x.hi]
def rmV (r : Rm) : List Value := ndV r.nd ++ [.int .i64 r.left, .int .i64 r.fr]
theorem fits_say (r : Rm) (x : Nd) : fitsB r.rw x = true ↔ x.kind ≤ 68 ∧ 0 ≤ x.kids ∧ r.fr ≤ x.lo ∧ x.lo ≤ x.hi ∧ x.hi ≤ r.nd.hi ∧ (x.word = -1 ∨ (x.lo ≤ x.word ∧ x.word < x.hi)) ∧ (r.nd.word < x.lo ∨ x.hi ≤ r.nd.word) := by
  unfold fitsB Rm.rw
  simp only [Bool.and_eq_true, Bool.or_eq_true, decide_eq_true_eq]
  omega
set_option maxHeartbeats 4000000 in
theorem fits_any (r : Rm) (x : Nd) (w : World) :
    Calls Try.prog 33 #[.agg (rmV r).toArray, .agg (ndV x).toArray] w fun e w' => e = .returned (.bool (fitsB r.rw x)) ∧ Below w.heap.size w w' := by
  obtain ⟨⟨k0, a0, b0, c0, d0⟩, lf, fr⟩ := r
  obtain ⟨k, a, b, c, d⟩ := x
  have hS := fits_say ⟨⟨k0, a0, b0, c0, d0⟩, lf, fr⟩ ⟨k, a, b, c, d⟩
  simp only at hS
  obtain ⟨v, hv⟩ : ∃ v, v = fitsB (Rm.rw ⟨⟨k0, a0, b0, c0, d0⟩, lf, fr⟩) ⟨k, a, b, c, d⟩ := ⟨_, rfl⟩
  rw [← hv] at hS ⊢
  have HS := Lib.hid hS
  clear hS hv
  simp only [rmV, ndV, List.cons_append, List.nil_append]
  go_enter Try.func33, Try.ntmps33
  go_wp2
  all_goals
    go_ret
    refine ⟨ret_bool ?_, ((Below.refl _ _).alloc (Nat.le_refl _) _).alloc (by simp) _⟩
    rw [Bool.eq_iff_iff, HS.out]
    try simp only [Bool.or_eq_true, decide_eq_true_eq, bne_iff_ne, ne_eq, bne_eq_false_iff_eq] at *
    try simp only [reduceCtorEq, false_iff, true_iff]
    omega
end Go.Proofs.Ytdlpminekojahaa
