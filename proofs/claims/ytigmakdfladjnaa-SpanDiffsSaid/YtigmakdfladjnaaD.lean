/-
  Layer 3: the closure that puts a piece behind what is there (span.edited's own).
-/
import Derived.Test.YtigmakdfladjnaaC
import Derived.Lib.LazyBuf
import Derived.Deep.RegionLaw
namespace Go.Proofs.Ytigmakdfladjnaa
open Go.ChangeShapes Go.WideShapes Go.ChangeAt Go.RowKit

def byteVals (s : ByteArray) : List Value := s.data.toList.map fun x => Value.int .u8 (x.toNat : Int)
set_option maxHeartbeats 1000000 in
theorem put_any (w : World) (ba bo g n k : Nat) (s : ByteArray) (hA : w.cell? ⟨ba, 0, none⟩ = some (.int .i64 k)) (fA : w.frozen? ⟨ba, 0, none⟩ = false) (hO : w.cell? ⟨bo, 0, none⟩ = some (.slice (some ⟨g, 0, none⟩) n n))
    (hc : ∀ j, j < n → (w.cell? ⟨g, j, none⟩).isSome = true) (hf : ∀ j, j < n → w.frozen? ⟨g, j, none⟩ = false) (hag : ba ≠ g) (hk : k + s.size ≤ n) (hn : n ≤ 65536) :
    Calls Try.prog 32 #[.string s, .pointer (some ⟨ba, 0, none⟩), .pointer (some ⟨bo, 0, none⟩)] w fun e w' => e = .returned (.tuple #[]) ∧ w' = (w.drew.setCells g k (byteVals s)).setCell ⟨ba, 0, none⟩ (.int .i64 ((k : Int) + s.size)) := by
  have hz : ∀ w, (Go.sizeOf 5).run Try.prog w = .ok 1 w := fun w => by kernel_rfl
  have h1 : 0 ≤ (k : Int) := by omega
  have h2 : (k : Int) ≤ (n : Int) := by omega
  have hw1 : IntKind.i64.wrap ((k : Int) + (s.size : Int)) = (k : Int) + s.size := by rw [IntKind.wrap_i64]; omega
  have cA : ∀ (o : Nat), (w.drew.setCells g o (s.data.toList.map fun x => Value.int .u8 (x.toNat : Int))).cell? ⟨ba, 0, none⟩ = some (.int .i64 k) := fun o => by
    rw [World.cell?_setCells_out g _ o w.drew ⟨ba, 0, none⟩ (fun e => absurd e hag)]; exact hA
  have cF : ∀ (o : Nat), (w.drew.setCells g o (s.data.toList.map fun x => Value.int .u8 (x.toNat : Int))).frozen? ⟨ba, 0, none⟩ = false := fun o => by
    rw [World.frozen?_setCells]; exact fA
  have hw0 : IntKind.i64.wrap (k : Int) = (k : Int) := by rw [IntKind.wrap_i64]; omega
  by_cases hkn : n = k
  · have hs0 : s.size = 0 := by omega
    have hb0 : byteVals s = [] := by
      unfold byteVals
      have h3 : s.data.toList.length = 0 := by rw [← hs0]; rfl
      rw [List.length_eq_zero_iff.1 h3]; rfl
    have HB := Lib.hid hb0
    have c0 := cA 0
    have f0 := cF 0
    clear hb0 cA cF
    go_enter Try.func32, Try.ntmps32
    go_region_law (refine step_copy_string rfl (.tmp 7) (.tmp 8) 47 9 rfl 5 Try.underlying47 hz g 0 (n - k) (n - k) (by simp [Act.eval, Act.put, hkn]) s (by simp [Act.eval, Act.put]) (by omega) (fun j hj => by omega) (fun j hj => by omega) ?_)
    all_goals
      go_end0
      refine ⟨rfl, ?_⟩
      have h4 : (s.data.toList.map fun x => Value.int .u8 (x.toNat : Int)) = [] := HB.out
      rw [h4, HB.out, hs0]
      simp [World.setCells]
  · have c0 := cA k
    have f0 := cF k
    clear cA cF
    go_enter Try.func32, Try.ntmps32
    go_region_law (refine step_copy_string rfl (.tmp 7) (.tmp 8) 47 9 rfl 5 Try.underlying47 hz g k (n - k) (n - k) (by simp [Act.eval, Act.put]) s (by simp [Act.eval, Act.put]) (by omega) (fun j hj => by simpa using hc (k + j) (by omega)) (fun j hj => by simpa using hf (k + j) (by omega)) ?_)
    all_goals
      go_end0
      exact ⟨rfl, rfl⟩
end Go.Proofs.Ytigmakdfladjnaa
