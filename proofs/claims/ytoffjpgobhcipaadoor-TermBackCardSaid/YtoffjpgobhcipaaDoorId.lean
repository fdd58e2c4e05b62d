/-
  Layer 11: the table of kinds; contract of term.kidsOf.
-/
import Derived.Test.YtoffjpgobhcipaaDoorIc
namespace Go.Proofs.YtoffjpgobhcipaaDoor.Trm
open Go.ChangeShapes Go.WideShapes Go.ChangeAt Go.RowKit

/-- the table of kinds: how many kids at least; may they be more; may the word be empty; which words -/
def tabK : List (Nat × Bool × Bool × List (List UInt8)) := [
  (0, false, true, []),
  (3, false, true, []),
  (0, true, true, []),
  (1, false, false, [[105, 109, 112, 111, 114, 116], [99, 111, 110, 115, 116], [118, 97, 114], [116, 121, 112, 101]]),
  (0, true, false, [[105, 109, 112, 111, 114, 116], [99, 111, 110, 115, 116], [118, 97, 114], [116, 121, 112, 101]]),
  (2, false, true, [[46]]),
  (3, false, true, []),
  (3, false, true, [[61]]),
  (5, false, true, []),
  (2, false, true, []),
  (1, true, true, []),
  (0, true, true, []),
  (0, true, true, []),
  (0, true, true, []),
  (0, true, true, []),
  (2, false, true, [[46, 46, 46]]),
  (1, true, true, []),
  (2, false, true, []),
  (1, true, true, []),
  (1, false, true, []),
  (0, true, true, []),
  (3, false, true, []),
  (2, false, true, []),
  (0, true, true, []),
  (2, false, true, []),
  (0, true, true, []),
  (0, false, false, []),
  (0, false, false, []),
  (1, false, true, []),
  (2, false, true, []),
  (2, false, true, []),
  (4, false, true, []),
  (2, false, true, []),
  (1, false, true, []),
  (2, false, true, [[46, 46, 46]]),
  (1, false, true, []),
  (1, false, false, [[43], [45], [33], [94], [38], [60, 45]]),
  (2, false, false, [[124, 124], [38, 38], [61, 61], [33, 61], [60], [60, 61], [62], [62, 61], [43], [45], [124], [94], [42], [47], [37], [60, 60], [62, 62], [38], [38, 94]]),
  (2, false, true, []),
  (2, false, true, []),
  (2, false, true, []),
  (2, false, true, []),
  (1, false, true, []),
  (1, false, true, []),
  (2, false, true, []),
  (1, false, false, [[99, 104, 97, 110], [99, 104, 97, 110, 60, 45], [60, 45, 99, 104, 97, 110]]),
  (1, false, true, []),
  (1, false, true, []),
  (1, false, true, []),
  (0, false, true, []),
  (1, false, true, []),
  (2, false, true, []),
  (1, false, false, [[43, 43], [45, 45]]),
  (2, false, false, [[61], [58, 61], [43, 61], [45, 61], [42, 61], [47, 61], [37, 61], [38, 61], [124, 61], [94, 61], [60, 60, 61], [62, 62, 61], [38, 94, 61]]),
  (1, false, true, []),
  (1, false, true, []),
  (1, false, true, []),
  (1, false, false, [[98, 114, 101, 97, 107], [99, 111, 110, 116, 105, 110, 117, 101], [103, 111, 116, 111], [102, 97, 108, 108, 116, 104, 114, 111, 117, 103, 104]]),
  (1, false, true, []),
  (4, false, true, []),
  (3, false, true, []),
  (4, false, true, []),
  (2, false, true, []),
  (1, false, true, []),
  (2, false, true, []),
  (4, false, true, []),
  (3, false, true, [[61], [58, 61]]),
  (2, false, true, []),
  (1, false, true, [])]
def leastK (k : Nat) : Int := match tabK[k]? with | some (n, _) => n | none => 1
def mostK (k : Nat) : Int := match tabK[k]? with | some (n, m, _) => if m then 9223372036854775807 else n | none => 0
theorem not_kind {k : Nat} (h : 69 ≤ k) (j : Int) (hj : j < 69) : ((k : Int) == j) = false := by simp; omega

set_option maxRecDepth 100000 in
theorem kidsOf_0 (w : World) : Calls Tryd.prog 31 #[.int .u8 0] w fun e w' => e = .returned (.tuple #[.int .i64 0, .int .i64 0]) ∧ w = w' := by
  go_enter Tryd.func31, Tryd.ntmps31
  go_wp2
  go_ret2
  exact ⟨rfl, rfl⟩
set_option maxRecDepth 100000 in
theorem kidsOf_1 (w : World) : Calls Tryd.prog 31 #[.int .u8 1] w fun e w' => e = .returned (.tuple #[.int .i64 3, .int .i64 3]) ∧ w = w' := by
  go_enter Tryd.func31, Tryd.ntmps31
  go_wp2
  go_ret2
  exact ⟨rfl, rfl⟩
set_option maxRecDepth 100000 in
theorem kidsOf_2 (w : World) : Calls Tryd.prog 31 #[.int .u8 2] w fun e w' => e = .returned (.tuple #[.int .i64 0, .int .i64 9223372036854775807]) ∧ w = w' := by
  go_enter Tryd.func31, Tryd.ntmps31
  go_wp2
  go_ret2
  exact ⟨rfl, rfl⟩
set_option maxRecDepth 100000 in
theorem kidsOf_3 (w : World) : Calls Tryd.prog 31 #[.int .u8 3] w fun e w' => e = .returned (.tuple #[.int .i64 1, .int .i64 1]) ∧ w = w' := by
  go_enter Tryd.func31, Tryd.ntmps31
  go_wp2
  go_ret2
  exact ⟨rfl, rfl⟩
set_option maxRecDepth 100000 in
theorem kidsOf_4 (w : World) : Calls Tryd.prog 31 #[.int .u8 4] w fun e w' => e = .returned (.tuple #[.int .i64 0, .int .i64 9223372036854775807]) ∧ w = w' := by
  go_enter Tryd.func31, Tryd.ntmps31
  go_wp2
  go_ret2
  exact ⟨rfl, rfl⟩
set_option maxRecDepth 100000 in
theorem kidsOf_5 (w : World) : Calls Tryd.prog 31 #[.int .u8 5] w fun e w' => e = .returned (.tuple #[.int .i64 2, .int .i64 2]) ∧ w = w' := by
  go_enter Tryd.func31, Tryd.ntmps31
  go_wp2
  go_ret2
  exact ⟨rfl, rfl⟩
set_option maxRecDepth 100000 in
theorem kidsOf_6 (w : World) : Calls Tryd.prog 31 #[.int .u8 6] w fun e w' => e = .returned (.tuple #[.int .i64 3, .int .i64 3]) ∧ w = w' := by
  go_enter Tryd.func31, Tryd.ntmps31
  go_wp2
  go_ret2
  exact ⟨rfl, rfl⟩
set_option maxRecDepth 100000 in
theorem kidsOf_7 (w : World) : Calls Tryd.prog 31 #[.int .u8 7] w fun e w' => e = .returned (.tuple #[.int .i64 3, .int .i64 3]) ∧ w = w' := by
  go_enter Tryd.func31, Tryd.ntmps31
  go_wp2
  go_ret2
  exact ⟨rfl, rfl⟩
set_option maxRecDepth 100000 in
theorem kidsOf_8 (w : World) : Calls Tryd.prog 31 #[.int .u8 8] w fun e w' => e = .returned (.tuple #[.int .i64 5, .int .i64 5]) ∧ w = w' := by
  go_enter Tryd.func31, Tryd.ntmps31
  go_wp2
  go_ret2
  exact ⟨rfl, rfl⟩
set_option maxRecDepth 100000 in
theorem kidsOf_9 (w : World) : Calls Tryd.prog 31 #[.int .u8 9] w fun e w' => e = .returned (.tuple #[.int .i64 2, .int .i64 2]) ∧ w = w' := by
  go_enter Tryd.func31, Tryd.ntmps31
  go_wp2
  go_ret2
  exact ⟨rfl, rfl⟩
set_option maxRecDepth 100000 in
theorem kidsOf_10 (w : World) : Calls Tryd.prog 31 #[.int .u8 10] w fun e w' => e = .returned (.tuple #[.int .i64 1, .int .i64 9223372036854775807]) ∧ w = w' := by
  go_enter Tryd.func31, Tryd.ntmps31
  go_wp2
  go_ret2
  exact ⟨rfl, rfl⟩
set_option maxRecDepth 100000 in
theorem kidsOf_11 (w : World) : Calls Tryd.prog 31 #[.int .u8 11] w fun e w' => e = .returned (.tuple #[.int .i64 0, .int .i64 9223372036854775807]) ∧ w = w' := by
  go_enter Tryd.func31, Tryd.ntmps31
  go_wp2
  go_ret2
  exact ⟨rfl, rfl⟩
set_option maxRecDepth 100000 in
theorem kidsOf_12 (w : World) : Calls Tryd.prog 31 #[.int .u8 12] w fun e w' => e = .returned (.tuple #[.int .i64 0, .int .i64 9223372036854775807]) ∧ w = w' := by
  go_enter Tryd.func31, Tryd.ntmps31
  go_wp2
  go_ret2
  exact ⟨rfl, rfl⟩
set_option maxRecDepth 100000 in
theorem kidsOf_13 (w : World) : Calls Tryd.prog 31 #[.int .u8 13] w fun e w' => e = .returned (.tuple #[.int .i64 0, .int .i64 9223372036854775807]) ∧ w = w' := by
  go_enter Tryd.func31, Tryd.ntmps31
  go_wp2
  go_ret2
  exact ⟨rfl, rfl⟩
set_option maxRecDepth 100000 in
theorem kidsOf_14 (w : World) : Calls Tryd.prog 31 #[.int .u8 14] w fun e w' => e = .returned (.tuple #[.int .i64 0, .int .i64 9223372036854775807]) ∧ w = w' := by
  go_enter Tryd.func31, Tryd.ntmps31
  go_wp2
  go_ret2
  exact ⟨rfl, rfl⟩
set_option maxRecDepth 100000 in
theorem kidsOf_15 (w : World) : Calls Tryd.prog 31 #[.int .u8 15] w fun e w' => e = .returned (.tuple #[.int .i64 2, .int .i64 2]) ∧ w = w' := by
  go_enter Tryd.func31, Tryd.ntmps31
  go_wp2
  go_ret2
  exact ⟨rfl, rfl⟩
set_option maxRecDepth 100000 in
theorem kidsOf_16 (w : World) : Calls Tryd.prog 31 #[.int .u8 16] w fun e w' => e = .returned (.tuple #[.int .i64 1, .int .i64 9223372036854775807]) ∧ w = w' := by
  go_enter Tryd.func31, Tryd.ntmps31
  go_wp2
  go_ret2
  exact ⟨rfl, rfl⟩
set_option maxRecDepth 100000 in
theorem kidsOf_17 (w : World) : Calls Tryd.prog 31 #[.int .u8 17] w fun e w' => e = .returned (.tuple #[.int .i64 2, .int .i64 2]) ∧ w = w' := by
  go_enter Tryd.func31, Tryd.ntmps31
  go_wp2
  go_ret2
  exact ⟨rfl, rfl⟩
set_option maxRecDepth 100000 in
theorem kidsOf_18 (w : World) : Calls Tryd.prog 31 #[.int .u8 18] w fun e w' => e = .returned (.tuple #[.int .i64 1, .int .i64 9223372036854775807]) ∧ w = w' := by
  go_enter Tryd.func31, Tryd.ntmps31
  go_wp2
  go_ret2
  exact ⟨rfl, rfl⟩
set_option maxRecDepth 100000 in
theorem kidsOf_19 (w : World) : Calls Tryd.prog 31 #[.int .u8 19] w fun e w' => e = .returned (.tuple #[.int .i64 1, .int .i64 1]) ∧ w = w' := by
  go_enter Tryd.func31, Tryd.ntmps31
  go_wp2
  go_ret2
  exact ⟨rfl, rfl⟩
set_option maxRecDepth 100000 in
theorem kidsOf_20 (w : World) : Calls Tryd.prog 31 #[.int .u8 20] w fun e w' => e = .returned (.tuple #[.int .i64 0, .int .i64 9223372036854775807]) ∧ w = w' := by
  go_enter Tryd.func31, Tryd.ntmps31
  go_wp2
  go_ret2
  exact ⟨rfl, rfl⟩
set_option maxRecDepth 100000 in
theorem kidsOf_21 (w : World) : Calls Tryd.prog 31 #[.int .u8 21] w fun e w' => e = .returned (.tuple #[.int .i64 3, .int .i64 3]) ∧ w = w' := by
  go_enter Tryd.func31, Tryd.ntmps31
  go_wp2
  go_ret2
  exact ⟨rfl, rfl⟩
set_option maxRecDepth 100000 in
theorem kidsOf_22 (w : World) : Calls Tryd.prog 31 #[.int .u8 22] w fun e w' => e = .returned (.tuple #[.int .i64 2, .int .i64 2]) ∧ w = w' := by
  go_enter Tryd.func31, Tryd.ntmps31
  go_wp2
  go_ret2
  exact ⟨rfl, rfl⟩
set_option maxRecDepth 100000 in
theorem kidsOf_23 (w : World) : Calls Tryd.prog 31 #[.int .u8 23] w fun e w' => e = .returned (.tuple #[.int .i64 0, .int .i64 9223372036854775807]) ∧ w = w' := by
  go_enter Tryd.func31, Tryd.ntmps31
  go_wp2
  go_ret2
  exact ⟨rfl, rfl⟩
set_option maxRecDepth 100000 in
theorem kidsOf_24 (w : World) : Calls Tryd.prog 31 #[.int .u8 24] w fun e w' => e = .returned (.tuple #[.int .i64 2, .int .i64 2]) ∧ w = w' := by
  go_enter Tryd.func31, Tryd.ntmps31
  go_wp2
  go_ret2
  exact ⟨rfl, rfl⟩
set_option maxRecDepth 100000 in
theorem kidsOf_25 (w : World) : Calls Tryd.prog 31 #[.int .u8 25] w fun e w' => e = .returned (.tuple #[.int .i64 0, .int .i64 9223372036854775807]) ∧ w = w' := by
  go_enter Tryd.func31, Tryd.ntmps31
  go_wp2
  go_ret2
  exact ⟨rfl, rfl⟩
set_option maxRecDepth 100000 in
theorem kidsOf_26 (w : World) : Calls Tryd.prog 31 #[.int .u8 26] w fun e w' => e = .returned (.tuple #[.int .i64 0, .int .i64 0]) ∧ w = w' := by
  go_enter Tryd.func31, Tryd.ntmps31
  go_wp2
  go_ret2
  exact ⟨rfl, rfl⟩
set_option maxRecDepth 100000 in
theorem kidsOf_27 (w : World) : Calls Tryd.prog 31 #[.int .u8 27] w fun e w' => e = .returned (.tuple #[.int .i64 0, .int .i64 0]) ∧ w = w' := by
  go_enter Tryd.func31, Tryd.ntmps31
  go_wp2
  go_ret2
  exact ⟨rfl, rfl⟩
set_option maxRecDepth 100000 in
theorem kidsOf_28 (w : World) : Calls Tryd.prog 31 #[.int .u8 28] w fun e w' => e = .returned (.tuple #[.int .i64 1, .int .i64 1]) ∧ w = w' := by
  go_enter Tryd.func31, Tryd.ntmps31
  go_wp2
  go_ret2
  exact ⟨rfl, rfl⟩
set_option maxRecDepth 100000 in
theorem kidsOf_29 (w : World) : Calls Tryd.prog 31 #[.int .u8 29] w fun e w' => e = .returned (.tuple #[.int .i64 2, .int .i64 2]) ∧ w = w' := by
  go_enter Tryd.func31, Tryd.ntmps31
  go_wp2
  go_ret2
  exact ⟨rfl, rfl⟩
set_option maxRecDepth 100000 in
theorem kidsOf_30 (w : World) : Calls Tryd.prog 31 #[.int .u8 30] w fun e w' => e = .returned (.tuple #[.int .i64 2, .int .i64 2]) ∧ w = w' := by
  go_enter Tryd.func31, Tryd.ntmps31
  go_wp2
  go_ret2
  exact ⟨rfl, rfl⟩
set_option maxRecDepth 100000 in
theorem kidsOf_31 (w : World) : Calls Tryd.prog 31 #[.int .u8 31] w fun e w' => e = .returned (.tuple #[.int .i64 4, .int .i64 4]) ∧ w = w' := by
  go_enter Tryd.func31, Tryd.ntmps31
  go_wp2
  go_ret2
  exact ⟨rfl, rfl⟩
set_option maxRecDepth 100000 in
theorem kidsOf_32 (w : World) : Calls Tryd.prog 31 #[.int .u8 32] w fun e w' => e = .returned (.tuple #[.int .i64 2, .int .i64 2]) ∧ w = w' := by
  go_enter Tryd.func31, Tryd.ntmps31
  go_wp2
  go_ret2
  exact ⟨rfl, rfl⟩
set_option maxRecDepth 100000 in
theorem kidsOf_33 (w : World) : Calls Tryd.prog 31 #[.int .u8 33] w fun e w' => e = .returned (.tuple #[.int .i64 1, .int .i64 1]) ∧ w = w' := by
  go_enter Tryd.func31, Tryd.ntmps31
  go_wp2
  go_ret2
  exact ⟨rfl, rfl⟩
set_option maxRecDepth 100000 in
theorem kidsOf_34 (w : World) : Calls Tryd.prog 31 #[.int .u8 34] w fun e w' => e = .returned (.tuple #[.int .i64 2, .int .i64 2]) ∧ w = w' := by
  go_enter Tryd.func31, Tryd.ntmps31
  go_wp2
  go_ret2
  exact ⟨rfl, rfl⟩
set_option maxRecDepth 100000 in
theorem kidsOf_35 (w : World) : Calls Tryd.prog 31 #[.int .u8 35] w fun e w' => e = .returned (.tuple #[.int .i64 1, .int .i64 1]) ∧ w = w' := by
  go_enter Tryd.func31, Tryd.ntmps31
  go_wp2
  go_ret2
  exact ⟨rfl, rfl⟩
set_option maxRecDepth 100000 in
theorem kidsOf_36 (w : World) : Calls Tryd.prog 31 #[.int .u8 36] w fun e w' => e = .returned (.tuple #[.int .i64 1, .int .i64 1]) ∧ w = w' := by
  go_enter Tryd.func31, Tryd.ntmps31
  go_wp2
  go_ret2
  exact ⟨rfl, rfl⟩
set_option maxRecDepth 100000 in
theorem kidsOf_37 (w : World) : Calls Tryd.prog 31 #[.int .u8 37] w fun e w' => e = .returned (.tuple #[.int .i64 2, .int .i64 2]) ∧ w = w' := by
  go_enter Tryd.func31, Tryd.ntmps31
  go_wp2
  go_ret2
  exact ⟨rfl, rfl⟩
set_option maxRecDepth 100000 in
theorem kidsOf_38 (w : World) : Calls Tryd.prog 31 #[.int .u8 38] w fun e w' => e = .returned (.tuple #[.int .i64 2, .int .i64 2]) ∧ w = w' := by
  go_enter Tryd.func31, Tryd.ntmps31
  go_wp2
  go_ret2
  exact ⟨rfl, rfl⟩
set_option maxRecDepth 100000 in
theorem kidsOf_39 (w : World) : Calls Tryd.prog 31 #[.int .u8 39] w fun e w' => e = .returned (.tuple #[.int .i64 2, .int .i64 2]) ∧ w = w' := by
  go_enter Tryd.func31, Tryd.ntmps31
  go_wp2
  go_ret2
  exact ⟨rfl, rfl⟩
set_option maxRecDepth 100000 in
theorem kidsOf_40 (w : World) : Calls Tryd.prog 31 #[.int .u8 40] w fun e w' => e = .returned (.tuple #[.int .i64 2, .int .i64 2]) ∧ w = w' := by
  go_enter Tryd.func31, Tryd.ntmps31
  go_wp2
  go_ret2
  exact ⟨rfl, rfl⟩
set_option maxRecDepth 100000 in
theorem kidsOf_41 (w : World) : Calls Tryd.prog 31 #[.int .u8 41] w fun e w' => e = .returned (.tuple #[.int .i64 2, .int .i64 2]) ∧ w = w' := by
  go_enter Tryd.func31, Tryd.ntmps31
  go_wp2
  go_ret2
  exact ⟨rfl, rfl⟩
set_option maxRecDepth 100000 in
theorem kidsOf_42 (w : World) : Calls Tryd.prog 31 #[.int .u8 42] w fun e w' => e = .returned (.tuple #[.int .i64 1, .int .i64 1]) ∧ w = w' := by
  go_enter Tryd.func31, Tryd.ntmps31
  go_wp2
  go_ret2
  exact ⟨rfl, rfl⟩
set_option maxRecDepth 100000 in
theorem kidsOf_43 (w : World) : Calls Tryd.prog 31 #[.int .u8 43] w fun e w' => e = .returned (.tuple #[.int .i64 1, .int .i64 1]) ∧ w = w' := by
  go_enter Tryd.func31, Tryd.ntmps31
  go_wp2
  go_ret2
  exact ⟨rfl, rfl⟩
set_option maxRecDepth 100000 in
theorem kidsOf_44 (w : World) : Calls Tryd.prog 31 #[.int .u8 44] w fun e w' => e = .returned (.tuple #[.int .i64 2, .int .i64 2]) ∧ w = w' := by
  go_enter Tryd.func31, Tryd.ntmps31
  go_wp2
  go_ret2
  exact ⟨rfl, rfl⟩
set_option maxRecDepth 100000 in
theorem kidsOf_45 (w : World) : Calls Tryd.prog 31 #[.int .u8 45] w fun e w' => e = .returned (.tuple #[.int .i64 1, .int .i64 1]) ∧ w = w' := by
  go_enter Tryd.func31, Tryd.ntmps31
  go_wp2
  go_ret2
  exact ⟨rfl, rfl⟩
set_option maxRecDepth 100000 in
theorem kidsOf_46 (w : World) : Calls Tryd.prog 31 #[.int .u8 46] w fun e w' => e = .returned (.tuple #[.int .i64 1, .int .i64 1]) ∧ w = w' := by
  go_enter Tryd.func31, Tryd.ntmps31
  go_wp2
  go_ret2
  exact ⟨rfl, rfl⟩
set_option maxRecDepth 100000 in
theorem kidsOf_47 (w : World) : Calls Tryd.prog 31 #[.int .u8 47] w fun e w' => e = .returned (.tuple #[.int .i64 1, .int .i64 1]) ∧ w = w' := by
  go_enter Tryd.func31, Tryd.ntmps31
  go_wp2
  go_ret2
  exact ⟨rfl, rfl⟩
set_option maxRecDepth 100000 in
theorem kidsOf_48 (w : World) : Calls Tryd.prog 31 #[.int .u8 48] w fun e w' => e = .returned (.tuple #[.int .i64 1, .int .i64 1]) ∧ w = w' := by
  go_enter Tryd.func31, Tryd.ntmps31
  go_wp2
  go_ret2
  exact ⟨rfl, rfl⟩
set_option maxRecDepth 100000 in
theorem kidsOf_49 (w : World) : Calls Tryd.prog 31 #[.int .u8 49] w fun e w' => e = .returned (.tuple #[.int .i64 0, .int .i64 0]) ∧ w = w' := by
  go_enter Tryd.func31, Tryd.ntmps31
  go_wp2
  go_ret2
  exact ⟨rfl, rfl⟩
set_option maxRecDepth 100000 in
theorem kidsOf_50 (w : World) : Calls Tryd.prog 31 #[.int .u8 50] w fun e w' => e = .returned (.tuple #[.int .i64 1, .int .i64 1]) ∧ w = w' := by
  go_enter Tryd.func31, Tryd.ntmps31
  go_wp2
  go_ret2
  exact ⟨rfl, rfl⟩
set_option maxRecDepth 100000 in
theorem kidsOf_51 (w : World) : Calls Tryd.prog 31 #[.int .u8 51] w fun e w' => e = .returned (.tuple #[.int .i64 2, .int .i64 2]) ∧ w = w' := by
  go_enter Tryd.func31, Tryd.ntmps31
  go_wp2
  go_ret2
  exact ⟨rfl, rfl⟩
set_option maxRecDepth 100000 in
theorem kidsOf_52 (w : World) : Calls Tryd.prog 31 #[.int .u8 52] w fun e w' => e = .returned (.tuple #[.int .i64 1, .int .i64 1]) ∧ w = w' := by
  go_enter Tryd.func31, Tryd.ntmps31
  go_wp2
  go_ret2
  exact ⟨rfl, rfl⟩
set_option maxRecDepth 100000 in
theorem kidsOf_53 (w : World) : Calls Tryd.prog 31 #[.int .u8 53] w fun e w' => e = .returned (.tuple #[.int .i64 2, .int .i64 2]) ∧ w = w' := by
  go_enter Tryd.func31, Tryd.ntmps31
  go_wp2
  go_ret2
  exact ⟨rfl, rfl⟩
set_option maxRecDepth 100000 in
theorem kidsOf_54 (w : World) : Calls Tryd.prog 31 #[.int .u8 54] w fun e w' => e = .returned (.tuple #[.int .i64 1, .int .i64 1]) ∧ w = w' := by
  go_enter Tryd.func31, Tryd.ntmps31
  go_wp2
  go_ret2
  exact ⟨rfl, rfl⟩
set_option maxRecDepth 100000 in
theorem kidsOf_55 (w : World) : Calls Tryd.prog 31 #[.int .u8 55] w fun e w' => e = .returned (.tuple #[.int .i64 1, .int .i64 1]) ∧ w = w' := by
  go_enter Tryd.func31, Tryd.ntmps31
  go_wp2
  go_ret2
  exact ⟨rfl, rfl⟩
set_option maxRecDepth 100000 in
theorem kidsOf_56 (w : World) : Calls Tryd.prog 31 #[.int .u8 56] w fun e w' => e = .returned (.tuple #[.int .i64 1, .int .i64 1]) ∧ w = w' := by
  go_enter Tryd.func31, Tryd.ntmps31
  go_wp2
  go_ret2
  exact ⟨rfl, rfl⟩
set_option maxRecDepth 100000 in
theorem kidsOf_57 (w : World) : Calls Tryd.prog 31 #[.int .u8 57] w fun e w' => e = .returned (.tuple #[.int .i64 1, .int .i64 1]) ∧ w = w' := by
  go_enter Tryd.func31, Tryd.ntmps31
  go_wp2
  go_ret2
  exact ⟨rfl, rfl⟩
set_option maxRecDepth 100000 in
theorem kidsOf_58 (w : World) : Calls Tryd.prog 31 #[.int .u8 58] w fun e w' => e = .returned (.tuple #[.int .i64 1, .int .i64 1]) ∧ w = w' := by
  go_enter Tryd.func31, Tryd.ntmps31
  go_wp2
  go_ret2
  exact ⟨rfl, rfl⟩
set_option maxRecDepth 100000 in
theorem kidsOf_59 (w : World) : Calls Tryd.prog 31 #[.int .u8 59] w fun e w' => e = .returned (.tuple #[.int .i64 4, .int .i64 4]) ∧ w = w' := by
  go_enter Tryd.func31, Tryd.ntmps31
  go_wp2
  go_ret2
  exact ⟨rfl, rfl⟩
set_option maxRecDepth 100000 in
theorem kidsOf_60 (w : World) : Calls Tryd.prog 31 #[.int .u8 60] w fun e w' => e = .returned (.tuple #[.int .i64 3, .int .i64 3]) ∧ w = w' := by
  go_enter Tryd.func31, Tryd.ntmps31
  go_wp2
  go_ret2
  exact ⟨rfl, rfl⟩
set_option maxRecDepth 100000 in
theorem kidsOf_61 (w : World) : Calls Tryd.prog 31 #[.int .u8 61] w fun e w' => e = .returned (.tuple #[.int .i64 4, .int .i64 4]) ∧ w = w' := by
  go_enter Tryd.func31, Tryd.ntmps31
  go_wp2
  go_ret2
  exact ⟨rfl, rfl⟩
set_option maxRecDepth 100000 in
theorem kidsOf_62 (w : World) : Calls Tryd.prog 31 #[.int .u8 62] w fun e w' => e = .returned (.tuple #[.int .i64 2, .int .i64 2]) ∧ w = w' := by
  go_enter Tryd.func31, Tryd.ntmps31
  go_wp2
  go_ret2
  exact ⟨rfl, rfl⟩
set_option maxRecDepth 100000 in
theorem kidsOf_63 (w : World) : Calls Tryd.prog 31 #[.int .u8 63] w fun e w' => e = .returned (.tuple #[.int .i64 1, .int .i64 1]) ∧ w = w' := by
  go_enter Tryd.func31, Tryd.ntmps31
  go_wp2
  go_ret2
  exact ⟨rfl, rfl⟩
set_option maxRecDepth 100000 in
theorem kidsOf_64 (w : World) : Calls Tryd.prog 31 #[.int .u8 64] w fun e w' => e = .returned (.tuple #[.int .i64 2, .int .i64 2]) ∧ w = w' := by
  go_enter Tryd.func31, Tryd.ntmps31
  go_wp2
  go_ret2
  exact ⟨rfl, rfl⟩
set_option maxRecDepth 100000 in
theorem kidsOf_65 (w : World) : Calls Tryd.prog 31 #[.int .u8 65] w fun e w' => e = .returned (.tuple #[.int .i64 4, .int .i64 4]) ∧ w = w' := by
  go_enter Tryd.func31, Tryd.ntmps31
  go_wp2
  go_ret2
  exact ⟨rfl, rfl⟩
set_option maxRecDepth 100000 in
theorem kidsOf_66 (w : World) : Calls Tryd.prog 31 #[.int .u8 66] w fun e w' => e = .returned (.tuple #[.int .i64 3, .int .i64 3]) ∧ w = w' := by
  go_enter Tryd.func31, Tryd.ntmps31
  go_wp2
  go_ret2
  exact ⟨rfl, rfl⟩
set_option maxRecDepth 100000 in
theorem kidsOf_67 (w : World) : Calls Tryd.prog 31 #[.int .u8 67] w fun e w' => e = .returned (.tuple #[.int .i64 2, .int .i64 2]) ∧ w = w' := by
  go_enter Tryd.func31, Tryd.ntmps31
  go_wp2
  go_ret2
  exact ⟨rfl, rfl⟩
set_option maxRecDepth 100000 in
theorem kidsOf_68 (w : World) : Calls Tryd.prog 31 #[.int .u8 68] w fun e w' => e = .returned (.tuple #[.int .i64 1, .int .i64 1]) ∧ w = w' := by
  go_enter Tryd.func31, Tryd.ntmps31
  go_wp2
  go_ret2
  exact ⟨rfl, rfl⟩
set_option maxRecDepth 100000 in
set_option maxHeartbeats 4000000 in
theorem kidsOf_no (k : Nat) (h : 69 ≤ k) (w : World) : Calls Tryd.prog 31 #[.int .u8 k] w fun e w' => e = .returned (.tuple #[.int .i64 1, .int .i64 0]) ∧ w = w' := by
  have q0 := not_kind h 0 (by decide)
  have q1 := not_kind h 1 (by decide)
  have q2 := not_kind h 2 (by decide)
  have q3 := not_kind h 3 (by decide)
  have q4 := not_kind h 4 (by decide)
  have q5 := not_kind h 5 (by decide)
  have q6 := not_kind h 6 (by decide)
  have q7 := not_kind h 7 (by decide)
  have q8 := not_kind h 8 (by decide)
  have q9 := not_kind h 9 (by decide)
  have q10 := not_kind h 10 (by decide)
  have q11 := not_kind h 11 (by decide)
  have q12 := not_kind h 12 (by decide)
  have q13 := not_kind h 13 (by decide)
  have q14 := not_kind h 14 (by decide)
  have q15 := not_kind h 15 (by decide)
  have q16 := not_kind h 16 (by decide)
  have q17 := not_kind h 17 (by decide)
  have q18 := not_kind h 18 (by decide)
  have q19 := not_kind h 19 (by decide)
  have q20 := not_kind h 20 (by decide)
  have q21 := not_kind h 21 (by decide)
  have q22 := not_kind h 22 (by decide)
  have q23 := not_kind h 23 (by decide)
  have q24 := not_kind h 24 (by decide)
  have q25 := not_kind h 25 (by decide)
  have q26 := not_kind h 26 (by decide)
  have q27 := not_kind h 27 (by decide)
  have q28 := not_kind h 28 (by decide)
  have q29 := not_kind h 29 (by decide)
  have q30 := not_kind h 30 (by decide)
  have q31 := not_kind h 31 (by decide)
  have q32 := not_kind h 32 (by decide)
  have q33 := not_kind h 33 (by decide)
  have q34 := not_kind h 34 (by decide)
  have q35 := not_kind h 35 (by decide)
  have q36 := not_kind h 36 (by decide)
  have q37 := not_kind h 37 (by decide)
  have q38 := not_kind h 38 (by decide)
  have q39 := not_kind h 39 (by decide)
  have q40 := not_kind h 40 (by decide)
  have q41 := not_kind h 41 (by decide)
  have q42 := not_kind h 42 (by decide)
  have q43 := not_kind h 43 (by decide)
  have q44 := not_kind h 44 (by decide)
  have q45 := not_kind h 45 (by decide)
  have q46 := not_kind h 46 (by decide)
  have q47 := not_kind h 47 (by decide)
  have q48 := not_kind h 48 (by decide)
  have q49 := not_kind h 49 (by decide)
  have q50 := not_kind h 50 (by decide)
  have q51 := not_kind h 51 (by decide)
  have q52 := not_kind h 52 (by decide)
  have q53 := not_kind h 53 (by decide)
  have q54 := not_kind h 54 (by decide)
  have q55 := not_kind h 55 (by decide)
  have q56 := not_kind h 56 (by decide)
  have q57 := not_kind h 57 (by decide)
  have q58 := not_kind h 58 (by decide)
  have q59 := not_kind h 59 (by decide)
  have q60 := not_kind h 60 (by decide)
  have q61 := not_kind h 61 (by decide)
  have q62 := not_kind h 62 (by decide)
  have q63 := not_kind h 63 (by decide)
  have q64 := not_kind h 64 (by decide)
  have q65 := not_kind h 65 (by decide)
  have q66 := not_kind h 66 (by decide)
  have q67 := not_kind h 67 (by decide)
  have q68 := not_kind h 68 (by decide)
  clear h
  go_enter Tryd.func31, Tryd.ntmps31
  go_wp2
  go_ret2
  exact ⟨rfl, rfl⟩
theorem kidsOf_any (k : Nat) (w : World) : Calls Tryd.prog 31 #[.int .u8 k] w fun e w' => e = .returned (.tuple #[.int .i64 (leastK k), .int .i64 (mostK k)]) ∧ w = w' := by
  by_cases h : 69 ≤ k
  · have e1 : leastK k = 1 := by unfold leastK; rw [List.getElem?_eq_none (by exact h)]
    have e2 : mostK k = 0 := by unfold mostK; rw [List.getElem?_eq_none (by exact h)]
    rw [e1, e2]
    exact kidsOf_no k h w
  · match k, h with
    | 0, _ => exact kidsOf_0 w
    | 1, _ => exact kidsOf_1 w
    | 2, _ => exact kidsOf_2 w
    | 3, _ => exact kidsOf_3 w
    | 4, _ => exact kidsOf_4 w
    | 5, _ => exact kidsOf_5 w
    | 6, _ => exact kidsOf_6 w
    | 7, _ => exact kidsOf_7 w
    | 8, _ => exact kidsOf_8 w
    | 9, _ => exact kidsOf_9 w
    | 10, _ => exact kidsOf_10 w
    | 11, _ => exact kidsOf_11 w
    | 12, _ => exact kidsOf_12 w
    | 13, _ => exact kidsOf_13 w
    | 14, _ => exact kidsOf_14 w
    | 15, _ => exact kidsOf_15 w
    | 16, _ => exact kidsOf_16 w
    | 17, _ => exact kidsOf_17 w
    | 18, _ => exact kidsOf_18 w
    | 19, _ => exact kidsOf_19 w
    | 20, _ => exact kidsOf_20 w
    | 21, _ => exact kidsOf_21 w
    | 22, _ => exact kidsOf_22 w
    | 23, _ => exact kidsOf_23 w
    | 24, _ => exact kidsOf_24 w
    | 25, _ => exact kidsOf_25 w
    | 26, _ => exact kidsOf_26 w
    | 27, _ => exact kidsOf_27 w
    | 28, _ => exact kidsOf_28 w
    | 29, _ => exact kidsOf_29 w
    | 30, _ => exact kidsOf_30 w
    | 31, _ => exact kidsOf_31 w
    | 32, _ => exact kidsOf_32 w
    | 33, _ => exact kidsOf_33 w
    | 34, _ => exact kidsOf_34 w
    | 35, _ => exact kidsOf_35 w
    | 36, _ => exact kidsOf_36 w
    | 37, _ => exact kidsOf_37 w
    | 38, _ => exact kidsOf_38 w
    | 39, _ => exact kidsOf_39 w
    | 40, _ => exact kidsOf_40 w
    | 41, _ => exact kidsOf_41 w
    | 42, _ => exact kidsOf_42 w
    | 43, _ => exact kidsOf_43 w
    | 44, _ => exact kidsOf_44 w
    | 45, _ => exact kidsOf_45 w
    | 46, _ => exact kidsOf_46 w
    | 47, _ => exact kidsOf_47 w
    | 48, _ => exact kidsOf_48 w
    | 49, _ => exact kidsOf_49 w
    | 50, _ => exact kidsOf_50 w
    | 51, _ => exact kidsOf_51 w
    | 52, _ => exact kidsOf_52 w
    | 53, _ => exact kidsOf_53 w
    | 54, _ => exact kidsOf_54 w
    | 55, _ => exact kidsOf_55 w
    | 56, _ => exact kidsOf_56 w
    | 57, _ => exact kidsOf_57 w
    | 58, _ => exact kidsOf_58 w
    | 59, _ => exact kidsOf_59 w
    | 60, _ => exact kidsOf_60 w
    | 61, _ => exact kidsOf_61 w
    | 62, _ => exact kidsOf_62 w
    | 63, _ => exact kidsOf_63 w
    | 64, _ => exact kidsOf_64 w
    | 65, _ => exact kidsOf_65 w
    | 66, _ => exact kidsOf_66 w
    | 67, _ => exact kidsOf_67 w
    | 68, _ => exact kidsOf_68 w
    | k + 69, h => exact absurd (Nat.le_add_left 69 k) h
end Go.Proofs.YtoffjpgobhcipaaDoor.Trm
