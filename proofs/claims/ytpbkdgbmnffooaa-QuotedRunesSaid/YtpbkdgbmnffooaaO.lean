/-
  Layer 6: the document's escape: a result that lies in a block of the call's own.
-/
import Derived.Test.YtpbkdgbmnffooaaN
import Derived.Laws.Rows
namespace Go.Proofs.Ytpbkdgbmnffooaa
open Go.ChangeShapes Go.WideShapes Go.ChangeAt Go.RowKit
/-- an item: how many bytes it has, what it says -/
def item (o : Option (List UInt8 × Nat)) : Value :=
  match o with
  | some (L, n) => .agg #[.int .i64 n, .string ⟨L.toArray⟩]
  | none => .agg #[.int .i64 0, .string ⟨#[]⟩]
set_option maxHeartbeats 4000000 in
theorem docesc_end (s : ByteArray) (hs : s.size ≤ 140737488351232) (k : Nat) (hk : k < s.size) (m : UInt8) (w : World) (hin : s.size ≤ k + 1) :
    Calls Try.prog 34 #[.string s, .int .i64 k, .int .u8 m.toNat] w fun e w' => e = .returned (item none) ∧ Below w.heap.size w w' := by
  have d1 : (s.size : Int) ≤ (k : Int) + 1 := by omega
  go_enter Try.func34, Try.ntmps34
  go_wp2
  refine bodyPost_ret (v := .agg #[.int .i64 0, .string ⟨#[]⟩]) (by rw [results_cell_row (p := 6) (ty := 56) rfl _ _ w.heap.size 56 #[.int .i64 0, .string ⟨#[]⟩] (0, 0) _ rfl (heap_alloc_new _ _) Try.underlying56 rfl rfl]) rfl ⟨rfl, (Below.refl _ w).alloc (Nat.le_refl _) _⟩
end Go.Proofs.Ytpbkdgbmnffooaa
