/-
  Layer 11: contracts of term.mayHaveWord at kinds that are no name and no literal.
-/
import Derived.Test.YtoffjpgobhcipaaDoorIe
namespace Go.Proofs.YtoffjpgobhcipaaDoor.Trm
open Go.ChangeShapes Go.WideShapes Go.ChangeAt Go.RowKit
set_option linter.unusedSimpArgs false

set_option maxRecDepth 100000 in
set_option maxHeartbeats 4000000 in
theorem mayHave_0 (s : ByteArray) (w : World) : Calls Tryd.prog 32 #[.int .u8 0, .string s] w fun e w' => e = .returned (.bool (mayW 0 s.toList)) ∧ w = w' := by
  have HE := Lib.hid (mayW_0 s.toList)
  go_enter Tryd.func32, Tryd.ntmps32
  go_wp2
  all_goals
    go_ret
    exact ⟨ret_bool (by rw [HE.out] <;> simp [*]), rfl⟩
set_option maxRecDepth 100000 in
set_option maxHeartbeats 4000000 in
theorem mayHave_1 (s : ByteArray) (w : World) : Calls Tryd.prog 32 #[.int .u8 1, .string s] w fun e w' => e = .returned (.bool (mayW 1 s.toList)) ∧ w = w' := by
  have HE := Lib.hid (mayW_1 s.toList)
  go_enter Tryd.func32, Tryd.ntmps32
  go_wp2
  all_goals
    go_ret
    exact ⟨ret_bool (by rw [HE.out] <;> simp [*]), rfl⟩
set_option maxRecDepth 100000 in
set_option maxHeartbeats 4000000 in
theorem mayHave_2 (s : ByteArray) (w : World) : Calls Tryd.prog 32 #[.int .u8 2, .string s] w fun e w' => e = .returned (.bool (mayW 2 s.toList)) ∧ w = w' := by
  have HE := Lib.hid (mayW_2 s.toList)
  go_enter Tryd.func32, Tryd.ntmps32
  go_wp2
  all_goals
    go_ret
    exact ⟨ret_bool (by rw [HE.out] <;> simp [*]), rfl⟩
set_option maxRecDepth 100000 in
set_option maxHeartbeats 4000000 in
theorem mayHave_3 (s : ByteArray) (w : World) : Calls Tryd.prog 32 #[.int .u8 3, .string s] w fun e w' => e = .returned (.bool (mayW 3 s.toList)) ∧ w = w' := by
  have HE := Lib.hid (mayW_3 s.toList)
  go_enter Tryd.func32, Tryd.ntmps32
  go_wp2
  all_goals
    go_ret
    exact ⟨ret_bool (by rw [HE.out] <;> simp [*]), rfl⟩
set_option maxRecDepth 100000 in
set_option maxHeartbeats 4000000 in
theorem mayHave_4 (s : ByteArray) (w : World) : Calls Tryd.prog 32 #[.int .u8 4, .string s] w fun e w' => e = .returned (.bool (mayW 4 s.toList)) ∧ w = w' := by
  have HE := Lib.hid (mayW_4 s.toList)
  go_enter Tryd.func32, Tryd.ntmps32
  go_wp2
  all_goals
    go_ret
    exact ⟨ret_bool (by rw [HE.out] <;> simp [*]), rfl⟩
set_option maxRecDepth 100000 in
set_option maxHeartbeats 4000000 in
theorem mayHave_5 (s : ByteArray) (w : World) : Calls Tryd.prog 32 #[.int .u8 5, .string s] w fun e w' => e = .returned (.bool (mayW 5 s.toList)) ∧ w = w' := by
  have HE := Lib.hid (mayW_5 s.toList)
  go_enter Tryd.func32, Tryd.ntmps32
  go_wp2
  all_goals
    go_ret
    exact ⟨ret_bool (by rw [HE.out] <;> simp [*]), rfl⟩
set_option maxRecDepth 100000 in
set_option maxHeartbeats 4000000 in
theorem mayHave_6 (s : ByteArray) (w : World) : Calls Tryd.prog 32 #[.int .u8 6, .string s] w fun e w' => e = .returned (.bool (mayW 6 s.toList)) ∧ w = w' := by
  have HE := Lib.hid (mayW_6 s.toList)
  go_enter Tryd.func32, Tryd.ntmps32
  go_wp2
  all_goals
    go_ret
    exact ⟨ret_bool (by rw [HE.out] <;> simp [*]), rfl⟩
set_option maxRecDepth 100000 in
set_option maxHeartbeats 4000000 in
theorem mayHave_7 (s : ByteArray) (w : World) : Calls Tryd.prog 32 #[.int .u8 7, .string s] w fun e w' => e = .returned (.bool (mayW 7 s.toList)) ∧ w = w' := by
  have HE := Lib.hid (mayW_7 s.toList)
  go_enter Tryd.func32, Tryd.ntmps32
  go_wp2
  all_goals
    go_ret
    exact ⟨ret_bool (by rw [HE.out] <;> simp [*]), rfl⟩
set_option maxRecDepth 100000 in
set_option maxHeartbeats 4000000 in
theorem mayHave_8 (s : ByteArray) (w : World) : Calls Tryd.prog 32 #[.int .u8 8, .string s] w fun e w' => e = .returned (.bool (mayW 8 s.toList)) ∧ w = w' := by
  have HE := Lib.hid (mayW_8 s.toList)
  go_enter Tryd.func32, Tryd.ntmps32
  go_wp2
  all_goals
    go_ret
    exact ⟨ret_bool (by rw [HE.out] <;> simp [*]), rfl⟩
set_option maxRecDepth 100000 in
set_option maxHeartbeats 4000000 in
theorem mayHave_9 (s : ByteArray) (w : World) : Calls Tryd.prog 32 #[.int .u8 9, .string s] w fun e w' => e = .returned (.bool (mayW 9 s.toList)) ∧ w = w' := by
  have HE := Lib.hid (mayW_9 s.toList)
  go_enter Tryd.func32, Tryd.ntmps32
  go_wp2
  all_goals
    go_ret
    exact ⟨ret_bool (by rw [HE.out] <;> simp [*]), rfl⟩
set_option maxRecDepth 100000 in
set_option maxHeartbeats 4000000 in
theorem mayHave_10 (s : ByteArray) (w : World) : Calls Tryd.prog 32 #[.int .u8 10, .string s] w fun e w' => e = .returned (.bool (mayW 10 s.toList)) ∧ w = w' := by
  have HE := Lib.hid (mayW_10 s.toList)
  go_enter Tryd.func32, Tryd.ntmps32
  go_wp2
  all_goals
    go_ret
    exact ⟨ret_bool (by rw [HE.out] <;> simp [*]), rfl⟩
set_option maxRecDepth 100000 in
set_option maxHeartbeats 4000000 in
theorem mayHave_11 (s : ByteArray) (w : World) : Calls Tryd.prog 32 #[.int .u8 11, .string s] w fun e w' => e = .returned (.bool (mayW 11 s.toList)) ∧ w = w' := by
  have HE := Lib.hid (mayW_11 s.toList)
  go_enter Tryd.func32, Tryd.ntmps32
  go_wp2
  all_goals
    go_ret
    exact ⟨ret_bool (by rw [HE.out] <;> simp [*]), rfl⟩
set_option maxRecDepth 100000 in
set_option maxHeartbeats 4000000 in
theorem mayHave_12 (s : ByteArray) (w : World) : Calls Tryd.prog 32 #[.int .u8 12, .string s] w fun e w' => e = .returned (.bool (mayW 12 s.toList)) ∧ w = w' := by
  have HE := Lib.hid (mayW_12 s.toList)
  go_enter Tryd.func32, Tryd.ntmps32
  go_wp2
  all_goals
    go_ret
    exact ⟨ret_bool (by rw [HE.out] <;> simp [*]), rfl⟩
set_option maxRecDepth 100000 in
set_option maxHeartbeats 4000000 in
theorem mayHave_13 (s : ByteArray) (w : World) : Calls Tryd.prog 32 #[.int .u8 13, .string s] w fun e w' => e = .returned (.bool (mayW 13 s.toList)) ∧ w = w' := by
  have HE := Lib.hid (mayW_13 s.toList)
  go_enter Tryd.func32, Tryd.ntmps32
  go_wp2
  all_goals
    go_ret
    exact ⟨ret_bool (by rw [HE.out] <;> simp [*]), rfl⟩
set_option maxRecDepth 100000 in
set_option maxHeartbeats 4000000 in
theorem mayHave_14 (s : ByteArray) (w : World) : Calls Tryd.prog 32 #[.int .u8 14, .string s] w fun e w' => e = .returned (.bool (mayW 14 s.toList)) ∧ w = w' := by
  have HE := Lib.hid (mayW_14 s.toList)
  go_enter Tryd.func32, Tryd.ntmps32
  go_wp2
  all_goals
    go_ret
    exact ⟨ret_bool (by rw [HE.out] <;> simp [*]), rfl⟩
set_option maxRecDepth 100000 in
set_option maxHeartbeats 4000000 in
theorem mayHave_15 (s : ByteArray) (w : World) : Calls Tryd.prog 32 #[.int .u8 15, .string s] w fun e w' => e = .returned (.bool (mayW 15 s.toList)) ∧ w = w' := by
  have HE := Lib.hid (mayW_15 s.toList)
  go_enter Tryd.func32, Tryd.ntmps32
  go_wp2
  all_goals
    go_ret
    exact ⟨ret_bool (by rw [HE.out] <;> simp [*]), rfl⟩
set_option maxRecDepth 100000 in
set_option maxHeartbeats 4000000 in
theorem mayHave_16 (s : ByteArray) (w : World) : Calls Tryd.prog 32 #[.int .u8 16, .string s] w fun e w' => e = .returned (.bool (mayW 16 s.toList)) ∧ w = w' := by
  have HE := Lib.hid (mayW_16 s.toList)
  go_enter Tryd.func32, Tryd.ntmps32
  go_wp2
  all_goals
    go_ret
    exact ⟨ret_bool (by rw [HE.out] <;> simp [*]), rfl⟩
set_option maxRecDepth 100000 in
set_option maxHeartbeats 4000000 in
theorem mayHave_17 (s : ByteArray) (w : World) : Calls Tryd.prog 32 #[.int .u8 17, .string s] w fun e w' => e = .returned (.bool (mayW 17 s.toList)) ∧ w = w' := by
  have HE := Lib.hid (mayW_17 s.toList)
  go_enter Tryd.func32, Tryd.ntmps32
  go_wp2
  all_goals
    go_ret
    exact ⟨ret_bool (by rw [HE.out] <;> simp [*]), rfl⟩
set_option maxRecDepth 100000 in
set_option maxHeartbeats 4000000 in
theorem mayHave_18 (s : ByteArray) (w : World) : Calls Tryd.prog 32 #[.int .u8 18, .string s] w fun e w' => e = .returned (.bool (mayW 18 s.toList)) ∧ w = w' := by
  have HE := Lib.hid (mayW_18 s.toList)
  go_enter Tryd.func32, Tryd.ntmps32
  go_wp2
  all_goals
    go_ret
    exact ⟨ret_bool (by rw [HE.out] <;> simp [*]), rfl⟩
set_option maxRecDepth 100000 in
set_option maxHeartbeats 4000000 in
theorem mayHave_19 (s : ByteArray) (w : World) : Calls Tryd.prog 32 #[.int .u8 19, .string s] w fun e w' => e = .returned (.bool (mayW 19 s.toList)) ∧ w = w' := by
  have HE := Lib.hid (mayW_19 s.toList)
  go_enter Tryd.func32, Tryd.ntmps32
  go_wp2
  all_goals
    go_ret
    exact ⟨ret_bool (by rw [HE.out] <;> simp [*]), rfl⟩
set_option maxRecDepth 100000 in
set_option maxHeartbeats 4000000 in
theorem mayHave_20 (s : ByteArray) (w : World) : Calls Tryd.prog 32 #[.int .u8 20, .string s] w fun e w' => e = .returned (.bool (mayW 20 s.toList)) ∧ w = w' := by
  have HE := Lib.hid (mayW_20 s.toList)
  go_enter Tryd.func32, Tryd.ntmps32
  go_wp2
  all_goals
    go_ret
    exact ⟨ret_bool (by rw [HE.out] <;> simp [*]), rfl⟩
set_option maxRecDepth 100000 in
set_option maxHeartbeats 4000000 in
theorem mayHave_21 (s : ByteArray) (w : World) : Calls Tryd.prog 32 #[.int .u8 21, .string s] w fun e w' => e = .returned (.bool (mayW 21 s.toList)) ∧ w = w' := by
  have HE := Lib.hid (mayW_21 s.toList)
  go_enter Tryd.func32, Tryd.ntmps32
  go_wp2
  all_goals
    go_ret
    exact ⟨ret_bool (by rw [HE.out] <;> simp [*]), rfl⟩
set_option maxRecDepth 100000 in
set_option maxHeartbeats 4000000 in
theorem mayHave_22 (s : ByteArray) (w : World) : Calls Tryd.prog 32 #[.int .u8 22, .string s] w fun e w' => e = .returned (.bool (mayW 22 s.toList)) ∧ w = w' := by
  have HE := Lib.hid (mayW_22 s.toList)
  go_enter Tryd.func32, Tryd.ntmps32
  go_wp2
  all_goals
    go_ret
    exact ⟨ret_bool (by rw [HE.out] <;> simp [*]), rfl⟩
set_option maxRecDepth 100000 in
set_option maxHeartbeats 4000000 in
theorem mayHave_23 (s : ByteArray) (w : World) : Calls Tryd.prog 32 #[.int .u8 23, .string s] w fun e w' => e = .returned (.bool (mayW 23 s.toList)) ∧ w = w' := by
  have HE := Lib.hid (mayW_23 s.toList)
  go_enter Tryd.func32, Tryd.ntmps32
  go_wp2
  all_goals
    go_ret
    exact ⟨ret_bool (by rw [HE.out] <;> simp [*]), rfl⟩
set_option maxRecDepth 100000 in
set_option maxHeartbeats 4000000 in
theorem mayHave_24 (s : ByteArray) (w : World) : Calls Tryd.prog 32 #[.int .u8 24, .string s] w fun e w' => e = .returned (.bool (mayW 24 s.toList)) ∧ w = w' := by
  have HE := Lib.hid (mayW_24 s.toList)
  go_enter Tryd.func32, Tryd.ntmps32
  go_wp2
  all_goals
    go_ret
    exact ⟨ret_bool (by rw [HE.out] <;> simp [*]), rfl⟩
set_option maxRecDepth 100000 in
set_option maxHeartbeats 4000000 in
theorem mayHave_25 (s : ByteArray) (w : World) : Calls Tryd.prog 32 #[.int .u8 25, .string s] w fun e w' => e = .returned (.bool (mayW 25 s.toList)) ∧ w = w' := by
  have HE := Lib.hid (mayW_25 s.toList)
  go_enter Tryd.func32, Tryd.ntmps32
  go_wp2
  all_goals
    go_ret
    exact ⟨ret_bool (by rw [HE.out] <;> simp [*]), rfl⟩
set_option maxRecDepth 100000 in
set_option maxHeartbeats 4000000 in
theorem mayHave_28 (s : ByteArray) (w : World) : Calls Tryd.prog 32 #[.int .u8 28, .string s] w fun e w' => e = .returned (.bool (mayW 28 s.toList)) ∧ w = w' := by
  have HE := Lib.hid (mayW_28 s.toList)
  go_enter Tryd.func32, Tryd.ntmps32
  go_wp2
  all_goals
    go_ret
    exact ⟨ret_bool (by rw [HE.out] <;> simp [*]), rfl⟩
set_option maxRecDepth 100000 in
set_option maxHeartbeats 4000000 in
theorem mayHave_29 (s : ByteArray) (w : World) : Calls Tryd.prog 32 #[.int .u8 29, .string s] w fun e w' => e = .returned (.bool (mayW 29 s.toList)) ∧ w = w' := by
  have HE := Lib.hid (mayW_29 s.toList)
  go_enter Tryd.func32, Tryd.ntmps32
  go_wp2
  all_goals
    go_ret
    exact ⟨ret_bool (by rw [HE.out] <;> simp [*]), rfl⟩
set_option maxRecDepth 100000 in
set_option maxHeartbeats 4000000 in
theorem mayHave_30 (s : ByteArray) (w : World) : Calls Tryd.prog 32 #[.int .u8 30, .string s] w fun e w' => e = .returned (.bool (mayW 30 s.toList)) ∧ w = w' := by
  have HE := Lib.hid (mayW_30 s.toList)
  go_enter Tryd.func32, Tryd.ntmps32
  go_wp2
  all_goals
    go_ret
    exact ⟨ret_bool (by rw [HE.out] <;> simp [*]), rfl⟩
set_option maxRecDepth 100000 in
set_option maxHeartbeats 4000000 in
theorem mayHave_31 (s : ByteArray) (w : World) : Calls Tryd.prog 32 #[.int .u8 31, .string s] w fun e w' => e = .returned (.bool (mayW 31 s.toList)) ∧ w = w' := by
  have HE := Lib.hid (mayW_31 s.toList)
  go_enter Tryd.func32, Tryd.ntmps32
  go_wp2
  all_goals
    go_ret
    exact ⟨ret_bool (by rw [HE.out] <;> simp [*]), rfl⟩
set_option maxRecDepth 100000 in
set_option maxHeartbeats 4000000 in
theorem mayHave_32 (s : ByteArray) (w : World) : Calls Tryd.prog 32 #[.int .u8 32, .string s] w fun e w' => e = .returned (.bool (mayW 32 s.toList)) ∧ w = w' := by
  have HE := Lib.hid (mayW_32 s.toList)
  go_enter Tryd.func32, Tryd.ntmps32
  go_wp2
  all_goals
    go_ret
    exact ⟨ret_bool (by rw [HE.out] <;> simp [*]), rfl⟩
set_option maxRecDepth 100000 in
set_option maxHeartbeats 4000000 in
theorem mayHave_33 (s : ByteArray) (w : World) : Calls Tryd.prog 32 #[.int .u8 33, .string s] w fun e w' => e = .returned (.bool (mayW 33 s.toList)) ∧ w = w' := by
  have HE := Lib.hid (mayW_33 s.toList)
  go_enter Tryd.func32, Tryd.ntmps32
  go_wp2
  all_goals
    go_ret
    exact ⟨ret_bool (by rw [HE.out] <;> simp [*]), rfl⟩
set_option maxRecDepth 100000 in
set_option maxHeartbeats 4000000 in
theorem mayHave_34 (s : ByteArray) (w : World) : Calls Tryd.prog 32 #[.int .u8 34, .string s] w fun e w' => e = .returned (.bool (mayW 34 s.toList)) ∧ w = w' := by
  have HE := Lib.hid (mayW_34 s.toList)
  go_enter Tryd.func32, Tryd.ntmps32
  go_wp2
  all_goals
    go_ret
    exact ⟨ret_bool (by rw [HE.out] <;> simp [*]), rfl⟩
set_option maxRecDepth 100000 in
set_option maxHeartbeats 4000000 in
theorem mayHave_35 (s : ByteArray) (w : World) : Calls Tryd.prog 32 #[.int .u8 35, .string s] w fun e w' => e = .returned (.bool (mayW 35 s.toList)) ∧ w = w' := by
  have HE := Lib.hid (mayW_35 s.toList)
  go_enter Tryd.func32, Tryd.ntmps32
  go_wp2
  all_goals
    go_ret
    exact ⟨ret_bool (by rw [HE.out] <;> simp [*]), rfl⟩
set_option maxRecDepth 100000 in
set_option maxHeartbeats 4000000 in
theorem mayHave_36 (s : ByteArray) (w : World) : Calls Tryd.prog 32 #[.int .u8 36, .string s] w fun e w' => e = .returned (.bool (mayW 36 s.toList)) ∧ w = w' := by
  have HE := Lib.hid (mayW_36 s.toList)
  go_enter Tryd.func32, Tryd.ntmps32
  go_wp2_with (go_at_call 41; refine (operator_36 s _).mono ?_; rintro e w1 ⟨rfl, rfl⟩)
  all_goals
    go_ret
    exact ⟨rfl, rfl⟩
set_option maxRecDepth 100000 in
set_option maxHeartbeats 4000000 in
theorem mayHave_37 (s : ByteArray) (w : World) : Calls Tryd.prog 32 #[.int .u8 37, .string s] w fun e w' => e = .returned (.bool (mayW 37 s.toList)) ∧ w = w' := by
  have HE := Lib.hid (mayW_37 s.toList)
  go_enter Tryd.func32, Tryd.ntmps32
  go_wp2_with (go_at_call 41; refine (operator_37 s _).mono ?_; rintro e w1 ⟨rfl, rfl⟩)
  all_goals
    go_ret
    exact ⟨rfl, rfl⟩
set_option maxRecDepth 100000 in
set_option maxHeartbeats 4000000 in
theorem mayHave_38 (s : ByteArray) (w : World) : Calls Tryd.prog 32 #[.int .u8 38, .string s] w fun e w' => e = .returned (.bool (mayW 38 s.toList)) ∧ w = w' := by
  have HE := Lib.hid (mayW_38 s.toList)
  go_enter Tryd.func32, Tryd.ntmps32
  go_wp2
  all_goals
    go_ret
    exact ⟨ret_bool (by rw [HE.out] <;> simp [*]), rfl⟩
set_option maxRecDepth 100000 in
set_option maxHeartbeats 4000000 in
theorem mayHave_39 (s : ByteArray) (w : World) : Calls Tryd.prog 32 #[.int .u8 39, .string s] w fun e w' => e = .returned (.bool (mayW 39 s.toList)) ∧ w = w' := by
  have HE := Lib.hid (mayW_39 s.toList)
  go_enter Tryd.func32, Tryd.ntmps32
  go_wp2
  all_goals
    go_ret
    exact ⟨ret_bool (by rw [HE.out] <;> simp [*]), rfl⟩
set_option maxRecDepth 100000 in
set_option maxHeartbeats 4000000 in
theorem mayHave_40 (s : ByteArray) (w : World) : Calls Tryd.prog 32 #[.int .u8 40, .string s] w fun e w' => e = .returned (.bool (mayW 40 s.toList)) ∧ w = w' := by
  have HE := Lib.hid (mayW_40 s.toList)
  go_enter Tryd.func32, Tryd.ntmps32
  go_wp2
  all_goals
    go_ret
    exact ⟨ret_bool (by rw [HE.out] <;> simp [*]), rfl⟩
set_option maxRecDepth 100000 in
set_option maxHeartbeats 4000000 in
theorem mayHave_41 (s : ByteArray) (w : World) : Calls Tryd.prog 32 #[.int .u8 41, .string s] w fun e w' => e = .returned (.bool (mayW 41 s.toList)) ∧ w = w' := by
  have HE := Lib.hid (mayW_41 s.toList)
  go_enter Tryd.func32, Tryd.ntmps32
  go_wp2
  all_goals
    go_ret
    exact ⟨ret_bool (by rw [HE.out] <;> simp [*]), rfl⟩
set_option maxRecDepth 100000 in
set_option maxHeartbeats 4000000 in
theorem mayHave_42 (s : ByteArray) (w : World) : Calls Tryd.prog 32 #[.int .u8 42, .string s] w fun e w' => e = .returned (.bool (mayW 42 s.toList)) ∧ w = w' := by
  have HE := Lib.hid (mayW_42 s.toList)
  go_enter Tryd.func32, Tryd.ntmps32
  go_wp2
  all_goals
    go_ret
    exact ⟨ret_bool (by rw [HE.out] <;> simp [*]), rfl⟩
set_option maxRecDepth 100000 in
set_option maxHeartbeats 4000000 in
theorem mayHave_43 (s : ByteArray) (w : World) : Calls Tryd.prog 32 #[.int .u8 43, .string s] w fun e w' => e = .returned (.bool (mayW 43 s.toList)) ∧ w = w' := by
  have HE := Lib.hid (mayW_43 s.toList)
  go_enter Tryd.func32, Tryd.ntmps32
  go_wp2
  all_goals
    go_ret
    exact ⟨ret_bool (by rw [HE.out] <;> simp [*]), rfl⟩
set_option maxRecDepth 100000 in
set_option maxHeartbeats 4000000 in
theorem mayHave_44 (s : ByteArray) (w : World) : Calls Tryd.prog 32 #[.int .u8 44, .string s] w fun e w' => e = .returned (.bool (mayW 44 s.toList)) ∧ w = w' := by
  have HE := Lib.hid (mayW_44 s.toList)
  go_enter Tryd.func32, Tryd.ntmps32
  go_wp2
  all_goals
    go_ret
    exact ⟨ret_bool (by rw [HE.out] <;> simp [*]), rfl⟩
set_option maxRecDepth 100000 in
set_option maxHeartbeats 4000000 in
theorem mayHave_45 (s : ByteArray) (w : World) : Calls Tryd.prog 32 #[.int .u8 45, .string s] w fun e w' => e = .returned (.bool (mayW 45 s.toList)) ∧ w = w' := by
  have HE := Lib.hid (mayW_45 s.toList)
  go_enter Tryd.func32, Tryd.ntmps32
  go_wp2
  all_goals
    go_ret
    exact ⟨ret_bool (by rw [HE.out] <;> simp [*]), rfl⟩
set_option maxRecDepth 100000 in
set_option maxHeartbeats 4000000 in
theorem mayHave_46 (s : ByteArray) (w : World) : Calls Tryd.prog 32 #[.int .u8 46, .string s] w fun e w' => e = .returned (.bool (mayW 46 s.toList)) ∧ w = w' := by
  have HE := Lib.hid (mayW_46 s.toList)
  go_enter Tryd.func32, Tryd.ntmps32
  go_wp2
  all_goals
    go_ret
    exact ⟨ret_bool (by rw [HE.out] <;> simp [*]), rfl⟩
set_option maxRecDepth 100000 in
set_option maxHeartbeats 4000000 in
theorem mayHave_47 (s : ByteArray) (w : World) : Calls Tryd.prog 32 #[.int .u8 47, .string s] w fun e w' => e = .returned (.bool (mayW 47 s.toList)) ∧ w = w' := by
  have HE := Lib.hid (mayW_47 s.toList)
  go_enter Tryd.func32, Tryd.ntmps32
  go_wp2
  all_goals
    go_ret
    exact ⟨ret_bool (by rw [HE.out] <;> simp [*]), rfl⟩
set_option maxRecDepth 100000 in
set_option maxHeartbeats 4000000 in
theorem mayHave_48 (s : ByteArray) (w : World) : Calls Tryd.prog 32 #[.int .u8 48, .string s] w fun e w' => e = .returned (.bool (mayW 48 s.toList)) ∧ w = w' := by
  have HE := Lib.hid (mayW_48 s.toList)
  go_enter Tryd.func32, Tryd.ntmps32
  go_wp2
  all_goals
    go_ret
    exact ⟨ret_bool (by rw [HE.out] <;> simp [*]), rfl⟩
set_option maxRecDepth 100000 in
set_option maxHeartbeats 4000000 in
theorem mayHave_49 (s : ByteArray) (w : World) : Calls Tryd.prog 32 #[.int .u8 49, .string s] w fun e w' => e = .returned (.bool (mayW 49 s.toList)) ∧ w = w' := by
  have HE := Lib.hid (mayW_49 s.toList)
  go_enter Tryd.func32, Tryd.ntmps32
  go_wp2
  all_goals
    go_ret
    exact ⟨ret_bool (by rw [HE.out] <;> simp [*]), rfl⟩
set_option maxRecDepth 100000 in
set_option maxHeartbeats 4000000 in
theorem mayHave_50 (s : ByteArray) (w : World) : Calls Tryd.prog 32 #[.int .u8 50, .string s] w fun e w' => e = .returned (.bool (mayW 50 s.toList)) ∧ w = w' := by
  have HE := Lib.hid (mayW_50 s.toList)
  go_enter Tryd.func32, Tryd.ntmps32
  go_wp2
  all_goals
    go_ret
    exact ⟨ret_bool (by rw [HE.out] <;> simp [*]), rfl⟩
set_option maxRecDepth 100000 in
set_option maxHeartbeats 4000000 in
theorem mayHave_51 (s : ByteArray) (w : World) : Calls Tryd.prog 32 #[.int .u8 51, .string s] w fun e w' => e = .returned (.bool (mayW 51 s.toList)) ∧ w = w' := by
  have HE := Lib.hid (mayW_51 s.toList)
  go_enter Tryd.func32, Tryd.ntmps32
  go_wp2
  all_goals
    go_ret
    exact ⟨ret_bool (by rw [HE.out] <;> simp [*]), rfl⟩
set_option maxRecDepth 100000 in
set_option maxHeartbeats 4000000 in
theorem mayHave_52 (s : ByteArray) (w : World) : Calls Tryd.prog 32 #[.int .u8 52, .string s] w fun e w' => e = .returned (.bool (mayW 52 s.toList)) ∧ w = w' := by
  have HE := Lib.hid (mayW_52 s.toList)
  go_enter Tryd.func32, Tryd.ntmps32
  go_wp2
  all_goals
    go_ret
    exact ⟨ret_bool (by rw [HE.out] <;> simp [*]), rfl⟩
set_option maxRecDepth 100000 in
set_option maxHeartbeats 4000000 in
theorem mayHave_53 (s : ByteArray) (w : World) : Calls Tryd.prog 32 #[.int .u8 53, .string s] w fun e w' => e = .returned (.bool (mayW 53 s.toList)) ∧ w = w' := by
  have HE := Lib.hid (mayW_53 s.toList)
  go_enter Tryd.func32, Tryd.ntmps32
  go_wp2_with (go_at_call 41; refine (operator_53 s _).mono ?_; rintro e w1 ⟨rfl, rfl⟩)
  all_goals
    go_ret
    exact ⟨rfl, rfl⟩
set_option maxRecDepth 100000 in
set_option maxHeartbeats 4000000 in
theorem mayHave_54 (s : ByteArray) (w : World) : Calls Tryd.prog 32 #[.int .u8 54, .string s] w fun e w' => e = .returned (.bool (mayW 54 s.toList)) ∧ w = w' := by
  have HE := Lib.hid (mayW_54 s.toList)
  go_enter Tryd.func32, Tryd.ntmps32
  go_wp2
  all_goals
    go_ret
    exact ⟨ret_bool (by rw [HE.out] <;> simp [*]), rfl⟩
set_option maxRecDepth 100000 in
set_option maxHeartbeats 4000000 in
theorem mayHave_55 (s : ByteArray) (w : World) : Calls Tryd.prog 32 #[.int .u8 55, .string s] w fun e w' => e = .returned (.bool (mayW 55 s.toList)) ∧ w = w' := by
  have HE := Lib.hid (mayW_55 s.toList)
  go_enter Tryd.func32, Tryd.ntmps32
  go_wp2
  all_goals
    go_ret
    exact ⟨ret_bool (by rw [HE.out] <;> simp [*]), rfl⟩
set_option maxRecDepth 100000 in
set_option maxHeartbeats 4000000 in
theorem mayHave_56 (s : ByteArray) (w : World) : Calls Tryd.prog 32 #[.int .u8 56, .string s] w fun e w' => e = .returned (.bool (mayW 56 s.toList)) ∧ w = w' := by
  have HE := Lib.hid (mayW_56 s.toList)
  go_enter Tryd.func32, Tryd.ntmps32
  go_wp2
  all_goals
    go_ret
    exact ⟨ret_bool (by rw [HE.out] <;> simp [*]), rfl⟩
set_option maxRecDepth 100000 in
set_option maxHeartbeats 4000000 in
theorem mayHave_57 (s : ByteArray) (w : World) : Calls Tryd.prog 32 #[.int .u8 57, .string s] w fun e w' => e = .returned (.bool (mayW 57 s.toList)) ∧ w = w' := by
  have HE := Lib.hid (mayW_57 s.toList)
  go_enter Tryd.func32, Tryd.ntmps32
  go_wp2
  all_goals
    go_ret
    exact ⟨ret_bool (by rw [HE.out] <;> simp [*]), rfl⟩
set_option maxRecDepth 100000 in
set_option maxHeartbeats 4000000 in
theorem mayHave_58 (s : ByteArray) (w : World) : Calls Tryd.prog 32 #[.int .u8 58, .string s] w fun e w' => e = .returned (.bool (mayW 58 s.toList)) ∧ w = w' := by
  have HE := Lib.hid (mayW_58 s.toList)
  go_enter Tryd.func32, Tryd.ntmps32
  go_wp2
  all_goals
    go_ret
    exact ⟨ret_bool (by rw [HE.out] <;> simp [*]), rfl⟩
set_option maxRecDepth 100000 in
set_option maxHeartbeats 4000000 in
theorem mayHave_59 (s : ByteArray) (w : World) : Calls Tryd.prog 32 #[.int .u8 59, .string s] w fun e w' => e = .returned (.bool (mayW 59 s.toList)) ∧ w = w' := by
  have HE := Lib.hid (mayW_59 s.toList)
  go_enter Tryd.func32, Tryd.ntmps32
  go_wp2
  all_goals
    go_ret
    exact ⟨ret_bool (by rw [HE.out] <;> simp [*]), rfl⟩
set_option maxRecDepth 100000 in
set_option maxHeartbeats 4000000 in
theorem mayHave_60 (s : ByteArray) (w : World) : Calls Tryd.prog 32 #[.int .u8 60, .string s] w fun e w' => e = .returned (.bool (mayW 60 s.toList)) ∧ w = w' := by
  have HE := Lib.hid (mayW_60 s.toList)
  go_enter Tryd.func32, Tryd.ntmps32
  go_wp2
  all_goals
    go_ret
    exact ⟨ret_bool (by rw [HE.out] <;> simp [*]), rfl⟩
set_option maxRecDepth 100000 in
set_option maxHeartbeats 4000000 in
theorem mayHave_61 (s : ByteArray) (w : World) : Calls Tryd.prog 32 #[.int .u8 61, .string s] w fun e w' => e = .returned (.bool (mayW 61 s.toList)) ∧ w = w' := by
  have HE := Lib.hid (mayW_61 s.toList)
  go_enter Tryd.func32, Tryd.ntmps32
  go_wp2
  all_goals
    go_ret
    exact ⟨ret_bool (by rw [HE.out] <;> simp [*]), rfl⟩
set_option maxRecDepth 100000 in
set_option maxHeartbeats 4000000 in
theorem mayHave_62 (s : ByteArray) (w : World) : Calls Tryd.prog 32 #[.int .u8 62, .string s] w fun e w' => e = .returned (.bool (mayW 62 s.toList)) ∧ w = w' := by
  have HE := Lib.hid (mayW_62 s.toList)
  go_enter Tryd.func32, Tryd.ntmps32
  go_wp2
  all_goals
    go_ret
    exact ⟨ret_bool (by rw [HE.out] <;> simp [*]), rfl⟩
set_option maxRecDepth 100000 in
set_option maxHeartbeats 4000000 in
theorem mayHave_63 (s : ByteArray) (w : World) : Calls Tryd.prog 32 #[.int .u8 63, .string s] w fun e w' => e = .returned (.bool (mayW 63 s.toList)) ∧ w = w' := by
  have HE := Lib.hid (mayW_63 s.toList)
  go_enter Tryd.func32, Tryd.ntmps32
  go_wp2
  all_goals
    go_ret
    exact ⟨ret_bool (by rw [HE.out] <;> simp [*]), rfl⟩
set_option maxRecDepth 100000 in
set_option maxHeartbeats 4000000 in
theorem mayHave_64 (s : ByteArray) (w : World) : Calls Tryd.prog 32 #[.int .u8 64, .string s] w fun e w' => e = .returned (.bool (mayW 64 s.toList)) ∧ w = w' := by
  have HE := Lib.hid (mayW_64 s.toList)
  go_enter Tryd.func32, Tryd.ntmps32
  go_wp2
  all_goals
    go_ret
    exact ⟨ret_bool (by rw [HE.out] <;> simp [*]), rfl⟩
set_option maxRecDepth 100000 in
set_option maxHeartbeats 4000000 in
theorem mayHave_65 (s : ByteArray) (w : World) : Calls Tryd.prog 32 #[.int .u8 65, .string s] w fun e w' => e = .returned (.bool (mayW 65 s.toList)) ∧ w = w' := by
  have HE := Lib.hid (mayW_65 s.toList)
  go_enter Tryd.func32, Tryd.ntmps32
  go_wp2
  all_goals
    go_ret
    exact ⟨ret_bool (by rw [HE.out] <;> simp [*]), rfl⟩
set_option maxRecDepth 100000 in
set_option maxHeartbeats 4000000 in
theorem mayHave_66 (s : ByteArray) (w : World) : Calls Tryd.prog 32 #[.int .u8 66, .string s] w fun e w' => e = .returned (.bool (mayW 66 s.toList)) ∧ w = w' := by
  have HE := Lib.hid (mayW_66 s.toList)
  go_enter Tryd.func32, Tryd.ntmps32
  go_wp2
  all_goals
    go_ret
    exact ⟨ret_bool (by rw [HE.out] <;> simp [*]), rfl⟩
set_option maxRecDepth 100000 in
set_option maxHeartbeats 4000000 in
theorem mayHave_67 (s : ByteArray) (w : World) : Calls Tryd.prog 32 #[.int .u8 67, .string s] w fun e w' => e = .returned (.bool (mayW 67 s.toList)) ∧ w = w' := by
  have HE := Lib.hid (mayW_67 s.toList)
  go_enter Tryd.func32, Tryd.ntmps32
  go_wp2
  all_goals
    go_ret
    exact ⟨ret_bool (by rw [HE.out] <;> simp [*]), rfl⟩
set_option maxRecDepth 100000 in
set_option maxHeartbeats 4000000 in
theorem mayHave_68 (s : ByteArray) (w : World) : Calls Tryd.prog 32 #[.int .u8 68, .string s] w fun e w' => e = .returned (.bool (mayW 68 s.toList)) ∧ w = w' := by
  have HE := Lib.hid (mayW_68 s.toList)
  go_enter Tryd.func32, Tryd.ntmps32
  go_wp2
  all_goals
    go_ret
    exact ⟨ret_bool (by rw [HE.out] <;> simp [*]), rfl⟩
end Go.Proofs.YtoffjpgobhcipaaDoor.Trm
