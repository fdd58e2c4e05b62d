/-
  Layer 11: contract of the document's digits.
-/
import Derived.Test.YtoffjpgobhcipaaGreatDoorKa
import Derived.Deep.RegionWith
import Derived.Deep.RegionHeld3
namespace Go.Proofs.YtoffjpgobhcipaaGreatDoor.Trm
open Go.ChangeShapes Go.WideShapes Go.ChangeAt Go.RowKit

theorem conv_one (c : UInt8) (w : World) (b : Nat) (h : w.heap[b]? = some (.cells #[.int .u8 c.toNat] 5 (0, 0))) : (convert 55 9 (.slice (some ⟨b, 0, none⟩) 1 1)).run Tryz.prog w = .ok (.string ⟨#[c]⟩) w := by
  have := conv_own (w := w) (base := 0) (v := .slice (some ⟨b, 0, none⟩) 1 1) (l := [c]) ⟨rfl, .inr ⟨b, 1, _, rfl, Nat.zero_le _, h, by simp, by decide, by simp, by simp [bvals]⟩⟩
  exact this
set_option maxRecDepth 100000 in
set_option maxHeartbeats 4000000 in
theorem digits_one (n : Nat) (hn : n < 10) (w : World) : Calls Tryz.prog 61 #[.int .u8 n] w fun e w' => e = .returned (.string ⟨(digs n).toArray⟩) ∧ Below w.heap.size w w' := by
  have hd : digs n = [UInt8.ofNat (48 + n)] := by unfold digs; rw [if_pos hn]
  have hc : ((UInt8.ofNat (48 + n)).toNat : Int) = 48 + n := by simp; omega
  have hr := conv_one (UInt8.ofNat (48 + n)) (w.alloc (.cells #[.int .u8 (48 + n)] 5)) w.heap.size (by rw [hc]; exact heap_alloc_new w _)
  rw [hd]
  have HH := Lib.hid hc
  clear hd hc
  go_enter Tryz.func61, Tryz.ntmps61
  go_wp2
  go_ret
  exact ⟨by rw [show UInt8.ofNat (48 + n) = 48 + UInt8.ofNat n by simp]; rfl, (Below.refl _ _).alloc (Nat.le_refl _) _⟩
set_option maxRecDepth 100000 in
set_option maxHeartbeats 4000000 in
theorem digits_more (n : Nat) (hn : 10 ≤ n) (hn2 : n ≤ 255) (D : List UInt8) (hD : D.length ≤ 2) (hd : ∀ w, Calls Tryz.prog 61 #[.int .u8 ((n / 10 : Nat) : Int)] w fun e w' => e = .returned (.string ⟨D.toArray⟩) ∧ Below w.heap.size w w') (w : World) :
    Calls Tryz.prog 61 #[.int .u8 n] w fun e w' => e = .returned (.string ⟨(D ++ [UInt8.ofNat (48 + n % 10)]).toArray⟩) ∧ Below w.heap.size w w' := by
  have hc : ((UInt8.ofNat (48 + n % 10)).toNat : Int) = 48 + (n : Int) % 10 := by simp; omega
  have hdv : ((n / 10 : Nat) : Int) = (n : Int) / 10 := by omega
  rw [hdv] at hd
  have h10 : ¬ (n : Int) < 10 := by omega
  have hdb : 0 ≤ (n : Int) / 10 ∧ (n : Int) / 10 ≤ 255 := by omega
  have q1 : IntKind.u8.wrap ((n : Int) / 10) = (n : Int) / 10 := by rw [IntKind.wrap_u8]; omega
  have q2 : (n : Int).tmod 10 = (n : Int) % 10 := Int.tmod_eq_emod_of_nonneg (by omega)
  have q3 : IntKind.u8.wrap (48 + (n : Int) % 10) = 48 + (n : Int) % 10 := by rw [IntKind.wrap_u8]; omega
  have HH := Lib.hid hc
  have hr := fun w b => conv_one (UInt8.ofNat (48 + n % 10)) w b
  rw [hc] at hr
  have hrA := fun w : World => hr (w.alloc (.cells #[.int .u8 (48 + (n : Int) % 10)] 5)) w.heap.size (heap_alloc_new w _)
  have hrB := fun w : World => hr (w.alloc (.cells #[.int .u8 (48 + (n : Int) % 10)] 5)).drew w.heap.size (heap_alloc_new w _)
  have hq : ¬ 9223372036854775807 < D.length + 1 := by omega
  have HV : Hid (({ data := D.toArray } : ByteArray) ++ { data := #[48 + UInt8.ofNat (n % 10)] } = ⟨(D ++ [UInt8.ofNat (48 + n % 10)]).toArray⟩) := Lib.hid (by apply ByteArray.ext; simp)
  clear hc hdv
  go_enter Tryz.func61, Tryz.ntmps61
  go_wp2
  go_region_with ((go_at_call 61; refine (hd _).mono ?_; rintro e w2 ⟨rfl, hB⟩; (try have hr9 := hr w2 w.heap.size ((hB.block w.heap.size (by simp)).trans (heap_alloc_new w.drew _))); (try have hr9 := hr w2 w.heap.size ((hB.block w.heap.size (by simp)).trans (heap_alloc_new w _)))))
  all_goals
    go_wp2
    go_ret
    refine ⟨by rw [← HV.out]; rfl, ?_⟩
    first
      | exact ((Below.refl _ w).drew.trans hB).alloc hB.size _
      | exact ((Below.refl _ w).drew.alloc (Nat.le_refl _) _).trans (hB.mono (by simp))
      | exact ((Below.refl _ w).alloc (Nat.le_refl _) _).drew.trans (hB.mono (by simp))
      | trace_state
theorem digs_more {n : Nat} (h : ¬ n < 10) (hn : n ≤ 255) : digs n = digs (n / 10) ++ [UInt8.ofNat (48 + n % 10)] := by
  rw [digs, if_neg h]
  by_cases h2 : n < 100
  · rw [if_pos h2, digs, if_pos (by omega)]; rfl
  · rw [if_neg h2, digs, if_neg (by omega : ¬ n / 10 < 10), if_pos (by omega), show n / 10 / 10 = n / 100 by omega]; rfl
theorem digs_short {n : Nat} (h : n < 100) : (digs n).length ≤ 2 := by
  by_cases h1 : n < 10
  · rw [digs, if_pos h1]; simp
  · rw [digs, if_neg h1, if_pos h]; simp
theorem digits_any (n : Nat) (hn : n ≤ 255) (w : World) : Calls Tryz.prog 61 #[.int .u8 n] w fun e w' => e = .returned (.string ⟨(digs n).toArray⟩) ∧ Below w.heap.size w w' := by
  by_cases h1 : n < 10
  · exact digits_one n h1 w
  · rw [digs_more h1 hn]
    refine digits_more n (by omega) hn _ (digs_short (by omega)) (fun w => ?_) w
    by_cases h2 : n / 10 < 10
    · exact digits_one _ h2 w
    · rw [digs_more h2 (by omega)]
      exact digits_more _ (by omega) (by omega) _ (digs_short (by omega)) (fun w => digits_one _ (by omega) w) w
end Go.Proofs.YtoffjpgobhcipaaGreatDoor.Trm
