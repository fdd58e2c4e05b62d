/-
  Layer 11: the words of kinds; contract of term.operator.
-/
import Derived.Test.YtoffjpgobhcipaaDoorId
namespace Go.Proofs.YtoffjpgobhcipaaDoor.Trm
open Go.ChangeShapes Go.WideShapes Go.ChangeAt Go.RowKit
set_option linter.unusedSimpArgs false

/-- may a part of a kind (no name, no literal) have a word? -/
def mayW (k : Nat) (l : List UInt8) : Bool := match tabK[k]? with | some (_, _, n, ws) => (n && (l == [])) || ws.any (fun x => l == x) | none => false
theorem str_lit {s : ByteArray} {l : List UInt8} (h : s.toList = l) (t : ByteArray) (ht : t.data.toList = l) : s = t := by
  rw [ByteArray.toList_eq] at h
  exact Go.WideShapes.bytes_inj (h.trans ht.symm)
theorem mayW_0 (l : List UInt8) : mayW 0 l = ((l == [])) := by show ((true && (l == [])) || _) = _; simp [Bool.or_assoc]
theorem mayW_1 (l : List UInt8) : mayW 1 l = ((l == [])) := by show ((true && (l == [])) || _) = _; simp [Bool.or_assoc]
theorem mayW_2 (l : List UInt8) : mayW 2 l = ((l == [])) := by show ((true && (l == [])) || _) = _; simp [Bool.or_assoc]
theorem mayW_3 (l : List UInt8) : mayW 3 l = ((l == [105, 109, 112, 111, 114, 116]) || (l == [99, 111, 110, 115, 116]) || (l == [118, 97, 114]) || (l == [116, 121, 112, 101])) := by show ((false && (l == [])) || _) = _; simp [Bool.or_assoc]
theorem mayW_4 (l : List UInt8) : mayW 4 l = ((l == [105, 109, 112, 111, 114, 116]) || (l == [99, 111, 110, 115, 116]) || (l == [118, 97, 114]) || (l == [116, 121, 112, 101])) := by show ((false && (l == [])) || _) = _; simp [Bool.or_assoc]
theorem mayW_5 (l : List UInt8) : mayW 5 l = ((l == []) || (l == [46])) := by show ((true && (l == [])) || _) = _; simp [Bool.or_assoc]
theorem mayW_6 (l : List UInt8) : mayW 6 l = ((l == [])) := by show ((true && (l == [])) || _) = _; simp [Bool.or_assoc]
theorem mayW_7 (l : List UInt8) : mayW 7 l = ((l == []) || (l == [61])) := by show ((true && (l == [])) || _) = _; simp [Bool.or_assoc]
theorem mayW_8 (l : List UInt8) : mayW 8 l = ((l == [])) := by show ((true && (l == [])) || _) = _; simp [Bool.or_assoc]
theorem mayW_9 (l : List UInt8) : mayW 9 l = ((l == [])) := by show ((true && (l == [])) || _) = _; simp [Bool.or_assoc]
theorem mayW_10 (l : List UInt8) : mayW 10 l = ((l == [])) := by show ((true && (l == [])) || _) = _; simp [Bool.or_assoc]
theorem mayW_11 (l : List UInt8) : mayW 11 l = ((l == [])) := by show ((true && (l == [])) || _) = _; simp [Bool.or_assoc]
theorem mayW_12 (l : List UInt8) : mayW 12 l = ((l == [])) := by show ((true && (l == [])) || _) = _; simp [Bool.or_assoc]
theorem mayW_13 (l : List UInt8) : mayW 13 l = ((l == [])) := by show ((true && (l == [])) || _) = _; simp [Bool.or_assoc]
theorem mayW_14 (l : List UInt8) : mayW 14 l = ((l == [])) := by show ((true && (l == [])) || _) = _; simp [Bool.or_assoc]
theorem mayW_15 (l : List UInt8) : mayW 15 l = ((l == []) || (l == [46, 46, 46])) := by show ((true && (l == [])) || _) = _; simp [Bool.or_assoc]
theorem mayW_16 (l : List UInt8) : mayW 16 l = ((l == [])) := by show ((true && (l == [])) || _) = _; simp [Bool.or_assoc]
theorem mayW_17 (l : List UInt8) : mayW 17 l = ((l == [])) := by show ((true && (l == [])) || _) = _; simp [Bool.or_assoc]
theorem mayW_18 (l : List UInt8) : mayW 18 l = ((l == [])) := by show ((true && (l == [])) || _) = _; simp [Bool.or_assoc]
theorem mayW_19 (l : List UInt8) : mayW 19 l = ((l == [])) := by show ((true && (l == [])) || _) = _; simp [Bool.or_assoc]
theorem mayW_20 (l : List UInt8) : mayW 20 l = ((l == [])) := by show ((true && (l == [])) || _) = _; simp [Bool.or_assoc]
theorem mayW_21 (l : List UInt8) : mayW 21 l = ((l == [])) := by show ((true && (l == [])) || _) = _; simp [Bool.or_assoc]
theorem mayW_22 (l : List UInt8) : mayW 22 l = ((l == [])) := by show ((true && (l == [])) || _) = _; simp [Bool.or_assoc]
theorem mayW_23 (l : List UInt8) : mayW 23 l = ((l == [])) := by show ((true && (l == [])) || _) = _; simp [Bool.or_assoc]
theorem mayW_24 (l : List UInt8) : mayW 24 l = ((l == [])) := by show ((true && (l == [])) || _) = _; simp [Bool.or_assoc]
theorem mayW_25 (l : List UInt8) : mayW 25 l = ((l == [])) := by show ((true && (l == [])) || _) = _; simp [Bool.or_assoc]
theorem mayW_28 (l : List UInt8) : mayW 28 l = ((l == [])) := by show ((true && (l == [])) || _) = _; simp [Bool.or_assoc]
theorem mayW_29 (l : List UInt8) : mayW 29 l = ((l == [])) := by show ((true && (l == [])) || _) = _; simp [Bool.or_assoc]
theorem mayW_30 (l : List UInt8) : mayW 30 l = ((l == [])) := by show ((true && (l == [])) || _) = _; simp [Bool.or_assoc]
theorem mayW_31 (l : List UInt8) : mayW 31 l = ((l == [])) := by show ((true && (l == [])) || _) = _; simp [Bool.or_assoc]
theorem mayW_32 (l : List UInt8) : mayW 32 l = ((l == [])) := by show ((true && (l == [])) || _) = _; simp [Bool.or_assoc]
theorem mayW_33 (l : List UInt8) : mayW 33 l = ((l == [])) := by show ((true && (l == [])) || _) = _; simp [Bool.or_assoc]
theorem mayW_34 (l : List UInt8) : mayW 34 l = ((l == []) || (l == [46, 46, 46])) := by show ((true && (l == [])) || _) = _; simp [Bool.or_assoc]
theorem mayW_35 (l : List UInt8) : mayW 35 l = ((l == [])) := by show ((true && (l == [])) || _) = _; simp [Bool.or_assoc]
theorem mayW_36 (l : List UInt8) : mayW 36 l = ((l == [43]) || (l == [45]) || (l == [33]) || (l == [94]) || (l == [38]) || (l == [60, 45])) := by show ((false && (l == [])) || _) = _; simp [Bool.or_assoc]
theorem mayW_37 (l : List UInt8) : mayW 37 l = ((l == [124, 124]) || (l == [38, 38]) || (l == [61, 61]) || (l == [33, 61]) || (l == [60]) || (l == [60, 61]) || (l == [62]) || (l == [62, 61]) || (l == [43]) || (l == [45]) || (l == [124]) || (l == [94]) || (l == [42]) || (l == [47]) || (l == [37]) || (l == [60, 60]) || (l == [62, 62]) || (l == [38]) || (l == [38, 94])) := by show ((false && (l == [])) || _) = _; simp [Bool.or_assoc]
theorem mayW_38 (l : List UInt8) : mayW 38 l = ((l == [])) := by show ((true && (l == [])) || _) = _; simp [Bool.or_assoc]
theorem mayW_39 (l : List UInt8) : mayW 39 l = ((l == [])) := by show ((true && (l == [])) || _) = _; simp [Bool.or_assoc]
theorem mayW_40 (l : List UInt8) : mayW 40 l = ((l == [])) := by show ((true && (l == [])) || _) = _; simp [Bool.or_assoc]
theorem mayW_41 (l : List UInt8) : mayW 41 l = ((l == [])) := by show ((true && (l == [])) || _) = _; simp [Bool.or_assoc]
theorem mayW_42 (l : List UInt8) : mayW 42 l = ((l == [])) := by show ((true && (l == [])) || _) = _; simp [Bool.or_assoc]
theorem mayW_43 (l : List UInt8) : mayW 43 l = ((l == [])) := by show ((true && (l == [])) || _) = _; simp [Bool.or_assoc]
theorem mayW_44 (l : List UInt8) : mayW 44 l = ((l == [])) := by show ((true && (l == [])) || _) = _; simp [Bool.or_assoc]
theorem mayW_45 (l : List UInt8) : mayW 45 l = ((l == [99, 104, 97, 110]) || (l == [99, 104, 97, 110, 60, 45]) || (l == [60, 45, 99, 104, 97, 110])) := by show ((false && (l == [])) || _) = _; simp [Bool.or_assoc]
theorem mayW_46 (l : List UInt8) : mayW 46 l = ((l == [])) := by show ((true && (l == [])) || _) = _; simp [Bool.or_assoc]
theorem mayW_47 (l : List UInt8) : mayW 47 l = ((l == [])) := by show ((true && (l == [])) || _) = _; simp [Bool.or_assoc]
theorem mayW_48 (l : List UInt8) : mayW 48 l = ((l == [])) := by show ((true && (l == [])) || _) = _; simp [Bool.or_assoc]
theorem mayW_49 (l : List UInt8) : mayW 49 l = ((l == [])) := by show ((true && (l == [])) || _) = _; simp [Bool.or_assoc]
theorem mayW_50 (l : List UInt8) : mayW 50 l = ((l == [])) := by show ((true && (l == [])) || _) = _; simp [Bool.or_assoc]
theorem mayW_51 (l : List UInt8) : mayW 51 l = ((l == [])) := by show ((true && (l == [])) || _) = _; simp [Bool.or_assoc]
theorem mayW_52 (l : List UInt8) : mayW 52 l = ((l == [43, 43]) || (l == [45, 45])) := by show ((false && (l == [])) || _) = _; simp [Bool.or_assoc]
theorem mayW_53 (l : List UInt8) : mayW 53 l = ((l == [61]) || (l == [58, 61]) || (l == [43, 61]) || (l == [45, 61]) || (l == [42, 61]) || (l == [47, 61]) || (l == [37, 61]) || (l == [38, 61]) || (l == [124, 61]) || (l == [94, 61]) || (l == [60, 60, 61]) || (l == [62, 62, 61]) || (l == [38, 94, 61])) := by show ((false && (l == [])) || _) = _; simp [Bool.or_assoc]
theorem mayW_54 (l : List UInt8) : mayW 54 l = ((l == [])) := by show ((true && (l == [])) || _) = _; simp [Bool.or_assoc]
theorem mayW_55 (l : List UInt8) : mayW 55 l = ((l == [])) := by show ((true && (l == [])) || _) = _; simp [Bool.or_assoc]
theorem mayW_56 (l : List UInt8) : mayW 56 l = ((l == [])) := by show ((true && (l == [])) || _) = _; simp [Bool.or_assoc]
theorem mayW_57 (l : List UInt8) : mayW 57 l = ((l == [98, 114, 101, 97, 107]) || (l == [99, 111, 110, 116, 105, 110, 117, 101]) || (l == [103, 111, 116, 111]) || (l == [102, 97, 108, 108, 116, 104, 114, 111, 117, 103, 104])) := by show ((false && (l == [])) || _) = _; simp [Bool.or_assoc]
theorem mayW_58 (l : List UInt8) : mayW 58 l = ((l == [])) := by show ((true && (l == [])) || _) = _; simp [Bool.or_assoc]
theorem mayW_59 (l : List UInt8) : mayW 59 l = ((l == [])) := by show ((true && (l == [])) || _) = _; simp [Bool.or_assoc]
theorem mayW_60 (l : List UInt8) : mayW 60 l = ((l == [])) := by show ((true && (l == [])) || _) = _; simp [Bool.or_assoc]
theorem mayW_61 (l : List UInt8) : mayW 61 l = ((l == [])) := by show ((true && (l == [])) || _) = _; simp [Bool.or_assoc]
theorem mayW_62 (l : List UInt8) : mayW 62 l = ((l == [])) := by show ((true && (l == [])) || _) = _; simp [Bool.or_assoc]
theorem mayW_63 (l : List UInt8) : mayW 63 l = ((l == [])) := by show ((true && (l == [])) || _) = _; simp [Bool.or_assoc]
theorem mayW_64 (l : List UInt8) : mayW 64 l = ((l == [])) := by show ((true && (l == [])) || _) = _; simp [Bool.or_assoc]
theorem mayW_65 (l : List UInt8) : mayW 65 l = ((l == [])) := by show ((true && (l == [])) || _) = _; simp [Bool.or_assoc]
theorem mayW_66 (l : List UInt8) : mayW 66 l = ((l == []) || (l == [61]) || (l == [58, 61])) := by show ((true && (l == [])) || _) = _; simp [Bool.or_assoc]
theorem mayW_67 (l : List UInt8) : mayW 67 l = ((l == [])) := by show ((true && (l == [])) || _) = _; simp [Bool.or_assoc]
theorem mayW_68 (l : List UInt8) : mayW 68 l = ((l == [])) := by show ((true && (l == [])) || _) = _; simp [Bool.or_assoc]
set_option maxRecDepth 100000 in
theorem op_36_0 (w : World) : Calls Tryd.prog 41 #[.int .u8 36, .string ⟨#[43]⟩] w fun e w' => e = .returned (.bool true) ∧ w = w' := by
  go_enter Tryd.func41, Tryd.ntmps41
  go_wp2
  go_ret
  exact ⟨rfl, rfl⟩
set_option maxRecDepth 100000 in
theorem op_36_1 (w : World) : Calls Tryd.prog 41 #[.int .u8 36, .string ⟨#[45]⟩] w fun e w' => e = .returned (.bool true) ∧ w = w' := by
  go_enter Tryd.func41, Tryd.ntmps41
  go_wp2
  go_ret
  exact ⟨rfl, rfl⟩
set_option maxRecDepth 100000 in
theorem op_36_2 (w : World) : Calls Tryd.prog 41 #[.int .u8 36, .string ⟨#[94]⟩] w fun e w' => e = .returned (.bool true) ∧ w = w' := by
  go_enter Tryd.func41, Tryd.ntmps41
  go_wp2
  go_ret
  exact ⟨rfl, rfl⟩
set_option maxRecDepth 100000 in
theorem op_36_3 (w : World) : Calls Tryd.prog 41 #[.int .u8 36, .string ⟨#[38]⟩] w fun e w' => e = .returned (.bool true) ∧ w = w' := by
  go_enter Tryd.func41, Tryd.ntmps41
  go_wp2
  go_ret
  exact ⟨rfl, rfl⟩
set_option maxRecDepth 100000 in
theorem op_36_4 (w : World) : Calls Tryd.prog 41 #[.int .u8 36, .string ⟨#[33]⟩] w fun e w' => e = .returned (.bool true) ∧ w = w' := by
  go_enter Tryd.func41, Tryd.ntmps41
  go_wp2
  go_ret
  exact ⟨rfl, rfl⟩
set_option maxRecDepth 100000 in
theorem op_36_5 (w : World) : Calls Tryd.prog 41 #[.int .u8 36, .string ⟨#[60, 45]⟩] w fun e w' => e = .returned (.bool true) ∧ w = w' := by
  go_enter Tryd.func41, Tryd.ntmps41
  go_wp2
  go_ret
  exact ⟨rfl, rfl⟩
set_option maxRecDepth 100000 in
theorem op_36_6 (w : World) : Calls Tryd.prog 41 #[.int .u8 36, .string ⟨#[124, 124]⟩] w fun e w' => e = .returned (.bool false) ∧ w = w' := by
  go_enter Tryd.func41, Tryd.ntmps41
  go_wp2
  go_ret
  exact ⟨rfl, rfl⟩
set_option maxRecDepth 100000 in
theorem op_36_7 (w : World) : Calls Tryd.prog 41 #[.int .u8 36, .string ⟨#[38, 38]⟩] w fun e w' => e = .returned (.bool false) ∧ w = w' := by
  go_enter Tryd.func41, Tryd.ntmps41
  go_wp2
  go_ret
  exact ⟨rfl, rfl⟩
set_option maxRecDepth 100000 in
theorem op_36_8 (w : World) : Calls Tryd.prog 41 #[.int .u8 36, .string ⟨#[61, 61]⟩] w fun e w' => e = .returned (.bool false) ∧ w = w' := by
  go_enter Tryd.func41, Tryd.ntmps41
  go_wp2
  go_ret
  exact ⟨rfl, rfl⟩
set_option maxRecDepth 100000 in
theorem op_36_9 (w : World) : Calls Tryd.prog 41 #[.int .u8 36, .string ⟨#[33, 61]⟩] w fun e w' => e = .returned (.bool false) ∧ w = w' := by
  go_enter Tryd.func41, Tryd.ntmps41
  go_wp2
  go_ret
  exact ⟨rfl, rfl⟩
set_option maxRecDepth 100000 in
theorem op_36_10 (w : World) : Calls Tryd.prog 41 #[.int .u8 36, .string ⟨#[60]⟩] w fun e w' => e = .returned (.bool false) ∧ w = w' := by
  go_enter Tryd.func41, Tryd.ntmps41
  go_wp2
  go_ret
  exact ⟨rfl, rfl⟩
set_option maxRecDepth 100000 in
theorem op_36_11 (w : World) : Calls Tryd.prog 41 #[.int .u8 36, .string ⟨#[60, 61]⟩] w fun e w' => e = .returned (.bool false) ∧ w = w' := by
  go_enter Tryd.func41, Tryd.ntmps41
  go_wp2
  go_ret
  exact ⟨rfl, rfl⟩
set_option maxRecDepth 100000 in
theorem op_36_12 (w : World) : Calls Tryd.prog 41 #[.int .u8 36, .string ⟨#[62]⟩] w fun e w' => e = .returned (.bool false) ∧ w = w' := by
  go_enter Tryd.func41, Tryd.ntmps41
  go_wp2
  go_ret
  exact ⟨rfl, rfl⟩
set_option maxRecDepth 100000 in
theorem op_36_13 (w : World) : Calls Tryd.prog 41 #[.int .u8 36, .string ⟨#[62, 61]⟩] w fun e w' => e = .returned (.bool false) ∧ w = w' := by
  go_enter Tryd.func41, Tryd.ntmps41
  go_wp2
  go_ret
  exact ⟨rfl, rfl⟩
set_option maxRecDepth 100000 in
theorem op_36_14 (w : World) : Calls Tryd.prog 41 #[.int .u8 36, .string ⟨#[124]⟩] w fun e w' => e = .returned (.bool false) ∧ w = w' := by
  go_enter Tryd.func41, Tryd.ntmps41
  go_wp2
  go_ret
  exact ⟨rfl, rfl⟩
set_option maxRecDepth 100000 in
theorem op_36_15 (w : World) : Calls Tryd.prog 41 #[.int .u8 36, .string ⟨#[42]⟩] w fun e w' => e = .returned (.bool false) ∧ w = w' := by
  go_enter Tryd.func41, Tryd.ntmps41
  go_wp2
  go_ret
  exact ⟨rfl, rfl⟩
set_option maxRecDepth 100000 in
theorem op_36_16 (w : World) : Calls Tryd.prog 41 #[.int .u8 36, .string ⟨#[47]⟩] w fun e w' => e = .returned (.bool false) ∧ w = w' := by
  go_enter Tryd.func41, Tryd.ntmps41
  go_wp2
  go_ret
  exact ⟨rfl, rfl⟩
set_option maxRecDepth 100000 in
theorem op_36_17 (w : World) : Calls Tryd.prog 41 #[.int .u8 36, .string ⟨#[37]⟩] w fun e w' => e = .returned (.bool false) ∧ w = w' := by
  go_enter Tryd.func41, Tryd.ntmps41
  go_wp2
  go_ret
  exact ⟨rfl, rfl⟩
set_option maxRecDepth 100000 in
theorem op_36_18 (w : World) : Calls Tryd.prog 41 #[.int .u8 36, .string ⟨#[60, 60]⟩] w fun e w' => e = .returned (.bool false) ∧ w = w' := by
  go_enter Tryd.func41, Tryd.ntmps41
  go_wp2
  go_ret
  exact ⟨rfl, rfl⟩
set_option maxRecDepth 100000 in
theorem op_36_19 (w : World) : Calls Tryd.prog 41 #[.int .u8 36, .string ⟨#[62, 62]⟩] w fun e w' => e = .returned (.bool false) ∧ w = w' := by
  go_enter Tryd.func41, Tryd.ntmps41
  go_wp2
  go_ret
  exact ⟨rfl, rfl⟩
set_option maxRecDepth 100000 in
theorem op_36_20 (w : World) : Calls Tryd.prog 41 #[.int .u8 36, .string ⟨#[38, 94]⟩] w fun e w' => e = .returned (.bool false) ∧ w = w' := by
  go_enter Tryd.func41, Tryd.ntmps41
  go_wp2
  go_ret
  exact ⟨rfl, rfl⟩
set_option maxRecDepth 100000 in
theorem op_36_21 (w : World) : Calls Tryd.prog 41 #[.int .u8 36, .string ⟨#[61]⟩] w fun e w' => e = .returned (.bool false) ∧ w = w' := by
  go_enter Tryd.func41, Tryd.ntmps41
  go_wp2
  go_ret
  exact ⟨rfl, rfl⟩
set_option maxRecDepth 100000 in
theorem op_36_22 (w : World) : Calls Tryd.prog 41 #[.int .u8 36, .string ⟨#[58, 61]⟩] w fun e w' => e = .returned (.bool false) ∧ w = w' := by
  go_enter Tryd.func41, Tryd.ntmps41
  go_wp2
  go_ret
  exact ⟨rfl, rfl⟩
set_option maxRecDepth 100000 in
theorem op_36_23 (w : World) : Calls Tryd.prog 41 #[.int .u8 36, .string ⟨#[43, 61]⟩] w fun e w' => e = .returned (.bool false) ∧ w = w' := by
  go_enter Tryd.func41, Tryd.ntmps41
  go_wp2
  go_ret
  exact ⟨rfl, rfl⟩
set_option maxRecDepth 100000 in
theorem op_36_24 (w : World) : Calls Tryd.prog 41 #[.int .u8 36, .string ⟨#[45, 61]⟩] w fun e w' => e = .returned (.bool false) ∧ w = w' := by
  go_enter Tryd.func41, Tryd.ntmps41
  go_wp2
  go_ret
  exact ⟨rfl, rfl⟩
set_option maxRecDepth 100000 in
theorem op_36_25 (w : World) : Calls Tryd.prog 41 #[.int .u8 36, .string ⟨#[42, 61]⟩] w fun e w' => e = .returned (.bool false) ∧ w = w' := by
  go_enter Tryd.func41, Tryd.ntmps41
  go_wp2
  go_ret
  exact ⟨rfl, rfl⟩
set_option maxRecDepth 100000 in
theorem op_36_26 (w : World) : Calls Tryd.prog 41 #[.int .u8 36, .string ⟨#[47, 61]⟩] w fun e w' => e = .returned (.bool false) ∧ w = w' := by
  go_enter Tryd.func41, Tryd.ntmps41
  go_wp2
  go_ret
  exact ⟨rfl, rfl⟩
set_option maxRecDepth 100000 in
theorem op_36_27 (w : World) : Calls Tryd.prog 41 #[.int .u8 36, .string ⟨#[37, 61]⟩] w fun e w' => e = .returned (.bool false) ∧ w = w' := by
  go_enter Tryd.func41, Tryd.ntmps41
  go_wp2
  go_ret
  exact ⟨rfl, rfl⟩
set_option maxRecDepth 100000 in
theorem op_36_28 (w : World) : Calls Tryd.prog 41 #[.int .u8 36, .string ⟨#[38, 61]⟩] w fun e w' => e = .returned (.bool false) ∧ w = w' := by
  go_enter Tryd.func41, Tryd.ntmps41
  go_wp2
  go_ret
  exact ⟨rfl, rfl⟩
set_option maxRecDepth 100000 in
theorem op_36_29 (w : World) : Calls Tryd.prog 41 #[.int .u8 36, .string ⟨#[124, 61]⟩] w fun e w' => e = .returned (.bool false) ∧ w = w' := by
  go_enter Tryd.func41, Tryd.ntmps41
  go_wp2
  go_ret
  exact ⟨rfl, rfl⟩
set_option maxRecDepth 100000 in
theorem op_36_30 (w : World) : Calls Tryd.prog 41 #[.int .u8 36, .string ⟨#[94, 61]⟩] w fun e w' => e = .returned (.bool false) ∧ w = w' := by
  go_enter Tryd.func41, Tryd.ntmps41
  go_wp2
  go_ret
  exact ⟨rfl, rfl⟩
set_option maxRecDepth 100000 in
theorem op_36_31 (w : World) : Calls Tryd.prog 41 #[.int .u8 36, .string ⟨#[60, 60, 61]⟩] w fun e w' => e = .returned (.bool false) ∧ w = w' := by
  go_enter Tryd.func41, Tryd.ntmps41
  go_wp2
  go_ret
  exact ⟨rfl, rfl⟩
set_option maxRecDepth 100000 in
theorem op_36_32 (w : World) : Calls Tryd.prog 41 #[.int .u8 36, .string ⟨#[62, 62, 61]⟩] w fun e w' => e = .returned (.bool false) ∧ w = w' := by
  go_enter Tryd.func41, Tryd.ntmps41
  go_wp2
  go_ret
  exact ⟨rfl, rfl⟩
set_option maxRecDepth 100000 in
theorem op_36_33 (w : World) : Calls Tryd.prog 41 #[.int .u8 36, .string ⟨#[38, 94, 61]⟩] w fun e w' => e = .returned (.bool false) ∧ w = w' := by
  go_enter Tryd.func41, Tryd.ntmps41
  go_wp2
  go_ret
  exact ⟨rfl, rfl⟩
set_option maxRecDepth 100000 in
set_option maxHeartbeats 4000000 in
theorem op_36_no (s : ByteArray) (w : World) (h0 : (s.toList == [43]) = false) (h1 : (s.toList == [45]) = false) (h2 : (s.toList == [94]) = false) (h3 : (s.toList == [38]) = false) (h4 : (s.toList == [33]) = false) (h5 : (s.toList == [60, 45]) = false) (h6 : (s.toList == [124, 124]) = false) (h7 : (s.toList == [38, 38]) = false) (h8 : (s.toList == [61, 61]) = false) (h9 : (s.toList == [33, 61]) = false) (h10 : (s.toList == [60]) = false) (h11 : (s.toList == [60, 61]) = false) (h12 : (s.toList == [62]) = false) (h13 : (s.toList == [62, 61]) = false) (h14 : (s.toList == [124]) = false) (h15 : (s.toList == [42]) = false) (h16 : (s.toList == [47]) = false) (h17 : (s.toList == [37]) = false) (h18 : (s.toList == [60, 60]) = false) (h19 : (s.toList == [62, 62]) = false) (h20 : (s.toList == [38, 94]) = false) (h21 : (s.toList == [61]) = false) (h22 : (s.toList == [58, 61]) = false) (h23 : (s.toList == [43, 61]) = false) (h24 : (s.toList == [45, 61]) = false) (h25 : (s.toList == [42, 61]) = false) (h26 : (s.toList == [47, 61]) = false) (h27 : (s.toList == [37, 61]) = false) (h28 : (s.toList == [38, 61]) = false) (h29 : (s.toList == [124, 61]) = false) (h30 : (s.toList == [94, 61]) = false) (h31 : (s.toList == [60, 60, 61]) = false) (h32 : (s.toList == [62, 62, 61]) = false) (h33 : (s.toList == [38, 94, 61]) = false) : Calls Tryd.prog 41 #[.int .u8 36, .string s] w fun e w' => e = .returned (.bool false) ∧ w = w' := by
  go_enter Tryd.func41, Tryd.ntmps41
  go_wp2
  go_ret
  exact ⟨rfl, rfl⟩
theorem operator_36 (s : ByteArray) (w : World) : Calls Tryd.prog 41 #[.int .u8 36, .string s] w fun e w' => e = .returned (.bool (mayW 36 s.toList)) ∧ w = w' := by

  by_cases h0 : s.toList = [43]
  · rw [show mayW 36 s.toList = true by rw [h0]; rfl, str_lit h0 ⟨#[43]⟩ rfl]; exact op_36_0 w
  by_cases h1 : s.toList = [45]
  · rw [show mayW 36 s.toList = true by rw [h1]; rfl, str_lit h1 ⟨#[45]⟩ rfl]; exact op_36_1 w
  by_cases h2 : s.toList = [94]
  · rw [show mayW 36 s.toList = true by rw [h2]; rfl, str_lit h2 ⟨#[94]⟩ rfl]; exact op_36_2 w
  by_cases h3 : s.toList = [38]
  · rw [show mayW 36 s.toList = true by rw [h3]; rfl, str_lit h3 ⟨#[38]⟩ rfl]; exact op_36_3 w
  by_cases h4 : s.toList = [33]
  · rw [show mayW 36 s.toList = true by rw [h4]; rfl, str_lit h4 ⟨#[33]⟩ rfl]; exact op_36_4 w
  by_cases h5 : s.toList = [60, 45]
  · rw [show mayW 36 s.toList = true by rw [h5]; rfl, str_lit h5 ⟨#[60, 45]⟩ rfl]; exact op_36_5 w
  by_cases h6 : s.toList = [124, 124]
  · rw [show mayW 36 s.toList = false by rw [h6]; rfl, str_lit h6 ⟨#[124, 124]⟩ rfl]; exact op_36_6 w
  by_cases h7 : s.toList = [38, 38]
  · rw [show mayW 36 s.toList = false by rw [h7]; rfl, str_lit h7 ⟨#[38, 38]⟩ rfl]; exact op_36_7 w
  by_cases h8 : s.toList = [61, 61]
  · rw [show mayW 36 s.toList = false by rw [h8]; rfl, str_lit h8 ⟨#[61, 61]⟩ rfl]; exact op_36_8 w
  by_cases h9 : s.toList = [33, 61]
  · rw [show mayW 36 s.toList = false by rw [h9]; rfl, str_lit h9 ⟨#[33, 61]⟩ rfl]; exact op_36_9 w
  by_cases h10 : s.toList = [60]
  · rw [show mayW 36 s.toList = false by rw [h10]; rfl, str_lit h10 ⟨#[60]⟩ rfl]; exact op_36_10 w
  by_cases h11 : s.toList = [60, 61]
  · rw [show mayW 36 s.toList = false by rw [h11]; rfl, str_lit h11 ⟨#[60, 61]⟩ rfl]; exact op_36_11 w
  by_cases h12 : s.toList = [62]
  · rw [show mayW 36 s.toList = false by rw [h12]; rfl, str_lit h12 ⟨#[62]⟩ rfl]; exact op_36_12 w
  by_cases h13 : s.toList = [62, 61]
  · rw [show mayW 36 s.toList = false by rw [h13]; rfl, str_lit h13 ⟨#[62, 61]⟩ rfl]; exact op_36_13 w
  by_cases h14 : s.toList = [124]
  · rw [show mayW 36 s.toList = false by rw [h14]; rfl, str_lit h14 ⟨#[124]⟩ rfl]; exact op_36_14 w
  by_cases h15 : s.toList = [42]
  · rw [show mayW 36 s.toList = false by rw [h15]; rfl, str_lit h15 ⟨#[42]⟩ rfl]; exact op_36_15 w
  by_cases h16 : s.toList = [47]
  · rw [show mayW 36 s.toList = false by rw [h16]; rfl, str_lit h16 ⟨#[47]⟩ rfl]; exact op_36_16 w
  by_cases h17 : s.toList = [37]
  · rw [show mayW 36 s.toList = false by rw [h17]; rfl, str_lit h17 ⟨#[37]⟩ rfl]; exact op_36_17 w
  by_cases h18 : s.toList = [60, 60]
  · rw [show mayW 36 s.toList = false by rw [h18]; rfl, str_lit h18 ⟨#[60, 60]⟩ rfl]; exact op_36_18 w
  by_cases h19 : s.toList = [62, 62]
  · rw [show mayW 36 s.toList = false by rw [h19]; rfl, str_lit h19 ⟨#[62, 62]⟩ rfl]; exact op_36_19 w
  by_cases h20 : s.toList = [38, 94]
  · rw [show mayW 36 s.toList = false by rw [h20]; rfl, str_lit h20 ⟨#[38, 94]⟩ rfl]; exact op_36_20 w
  by_cases h21 : s.toList = [61]
  · rw [show mayW 36 s.toList = false by rw [h21]; rfl, str_lit h21 ⟨#[61]⟩ rfl]; exact op_36_21 w
  by_cases h22 : s.toList = [58, 61]
  · rw [show mayW 36 s.toList = false by rw [h22]; rfl, str_lit h22 ⟨#[58, 61]⟩ rfl]; exact op_36_22 w
  by_cases h23 : s.toList = [43, 61]
  · rw [show mayW 36 s.toList = false by rw [h23]; rfl, str_lit h23 ⟨#[43, 61]⟩ rfl]; exact op_36_23 w
  by_cases h24 : s.toList = [45, 61]
  · rw [show mayW 36 s.toList = false by rw [h24]; rfl, str_lit h24 ⟨#[45, 61]⟩ rfl]; exact op_36_24 w
  by_cases h25 : s.toList = [42, 61]
  · rw [show mayW 36 s.toList = false by rw [h25]; rfl, str_lit h25 ⟨#[42, 61]⟩ rfl]; exact op_36_25 w
  by_cases h26 : s.toList = [47, 61]
  · rw [show mayW 36 s.toList = false by rw [h26]; rfl, str_lit h26 ⟨#[47, 61]⟩ rfl]; exact op_36_26 w
  by_cases h27 : s.toList = [37, 61]
  · rw [show mayW 36 s.toList = false by rw [h27]; rfl, str_lit h27 ⟨#[37, 61]⟩ rfl]; exact op_36_27 w
  by_cases h28 : s.toList = [38, 61]
  · rw [show mayW 36 s.toList = false by rw [h28]; rfl, str_lit h28 ⟨#[38, 61]⟩ rfl]; exact op_36_28 w
  by_cases h29 : s.toList = [124, 61]
  · rw [show mayW 36 s.toList = false by rw [h29]; rfl, str_lit h29 ⟨#[124, 61]⟩ rfl]; exact op_36_29 w
  by_cases h30 : s.toList = [94, 61]
  · rw [show mayW 36 s.toList = false by rw [h30]; rfl, str_lit h30 ⟨#[94, 61]⟩ rfl]; exact op_36_30 w
  by_cases h31 : s.toList = [60, 60, 61]
  · rw [show mayW 36 s.toList = false by rw [h31]; rfl, str_lit h31 ⟨#[60, 60, 61]⟩ rfl]; exact op_36_31 w
  by_cases h32 : s.toList = [62, 62, 61]
  · rw [show mayW 36 s.toList = false by rw [h32]; rfl, str_lit h32 ⟨#[62, 62, 61]⟩ rfl]; exact op_36_32 w
  by_cases h33 : s.toList = [38, 94, 61]
  · rw [show mayW 36 s.toList = false by rw [h33]; rfl, str_lit h33 ⟨#[38, 94, 61]⟩ rfl]; exact op_36_33 w
  rw [show mayW 36 s.toList = false by rw [mayW_36]; simp [*]]
  exact op_36_no s w (beq_eq_false_iff_ne.2 h0) (beq_eq_false_iff_ne.2 h1) (beq_eq_false_iff_ne.2 h2) (beq_eq_false_iff_ne.2 h3) (beq_eq_false_iff_ne.2 h4) (beq_eq_false_iff_ne.2 h5) (beq_eq_false_iff_ne.2 h6) (beq_eq_false_iff_ne.2 h7) (beq_eq_false_iff_ne.2 h8) (beq_eq_false_iff_ne.2 h9) (beq_eq_false_iff_ne.2 h10) (beq_eq_false_iff_ne.2 h11) (beq_eq_false_iff_ne.2 h12) (beq_eq_false_iff_ne.2 h13) (beq_eq_false_iff_ne.2 h14) (beq_eq_false_iff_ne.2 h15) (beq_eq_false_iff_ne.2 h16) (beq_eq_false_iff_ne.2 h17) (beq_eq_false_iff_ne.2 h18) (beq_eq_false_iff_ne.2 h19) (beq_eq_false_iff_ne.2 h20) (beq_eq_false_iff_ne.2 h21) (beq_eq_false_iff_ne.2 h22) (beq_eq_false_iff_ne.2 h23) (beq_eq_false_iff_ne.2 h24) (beq_eq_false_iff_ne.2 h25) (beq_eq_false_iff_ne.2 h26) (beq_eq_false_iff_ne.2 h27) (beq_eq_false_iff_ne.2 h28) (beq_eq_false_iff_ne.2 h29) (beq_eq_false_iff_ne.2 h30) (beq_eq_false_iff_ne.2 h31) (beq_eq_false_iff_ne.2 h32) (beq_eq_false_iff_ne.2 h33)
set_option maxRecDepth 100000 in
theorem op_37_0 (w : World) : Calls Tryd.prog 41 #[.int .u8 37, .string ⟨#[43]⟩] w fun e w' => e = .returned (.bool true) ∧ w = w' := by
  go_enter Tryd.func41, Tryd.ntmps41
  go_wp2
  go_ret
  exact ⟨rfl, rfl⟩
set_option maxRecDepth 100000 in
theorem op_37_1 (w : World) : Calls Tryd.prog 41 #[.int .u8 37, .string ⟨#[45]⟩] w fun e w' => e = .returned (.bool true) ∧ w = w' := by
  go_enter Tryd.func41, Tryd.ntmps41
  go_wp2
  go_ret
  exact ⟨rfl, rfl⟩
set_option maxRecDepth 100000 in
theorem op_37_2 (w : World) : Calls Tryd.prog 41 #[.int .u8 37, .string ⟨#[94]⟩] w fun e w' => e = .returned (.bool true) ∧ w = w' := by
  go_enter Tryd.func41, Tryd.ntmps41
  go_wp2
  go_ret
  exact ⟨rfl, rfl⟩
set_option maxRecDepth 100000 in
theorem op_37_3 (w : World) : Calls Tryd.prog 41 #[.int .u8 37, .string ⟨#[38]⟩] w fun e w' => e = .returned (.bool true) ∧ w = w' := by
  go_enter Tryd.func41, Tryd.ntmps41
  go_wp2
  go_ret
  exact ⟨rfl, rfl⟩
set_option maxRecDepth 100000 in
theorem op_37_4 (w : World) : Calls Tryd.prog 41 #[.int .u8 37, .string ⟨#[33]⟩] w fun e w' => e = .returned (.bool false) ∧ w = w' := by
  go_enter Tryd.func41, Tryd.ntmps41
  go_wp2
  go_ret
  exact ⟨rfl, rfl⟩
set_option maxRecDepth 100000 in
theorem op_37_5 (w : World) : Calls Tryd.prog 41 #[.int .u8 37, .string ⟨#[60, 45]⟩] w fun e w' => e = .returned (.bool false) ∧ w = w' := by
  go_enter Tryd.func41, Tryd.ntmps41
  go_wp2
  go_ret
  exact ⟨rfl, rfl⟩
set_option maxRecDepth 100000 in
theorem op_37_6 (w : World) : Calls Tryd.prog 41 #[.int .u8 37, .string ⟨#[124, 124]⟩] w fun e w' => e = .returned (.bool true) ∧ w = w' := by
  go_enter Tryd.func41, Tryd.ntmps41
  go_wp2
  go_ret
  exact ⟨rfl, rfl⟩
set_option maxRecDepth 100000 in
theorem op_37_7 (w : World) : Calls Tryd.prog 41 #[.int .u8 37, .string ⟨#[38, 38]⟩] w fun e w' => e = .returned (.bool true) ∧ w = w' := by
  go_enter Tryd.func41, Tryd.ntmps41
  go_wp2
  go_ret
  exact ⟨rfl, rfl⟩
set_option maxRecDepth 100000 in
theorem op_37_8 (w : World) : Calls Tryd.prog 41 #[.int .u8 37, .string ⟨#[61, 61]⟩] w fun e w' => e = .returned (.bool true) ∧ w = w' := by
  go_enter Tryd.func41, Tryd.ntmps41
  go_wp2
  go_ret
  exact ⟨rfl, rfl⟩
set_option maxRecDepth 100000 in
theorem op_37_9 (w : World) : Calls Tryd.prog 41 #[.int .u8 37, .string ⟨#[33, 61]⟩] w fun e w' => e = .returned (.bool true) ∧ w = w' := by
  go_enter Tryd.func41, Tryd.ntmps41
  go_wp2
  go_ret
  exact ⟨rfl, rfl⟩
set_option maxRecDepth 100000 in
theorem op_37_10 (w : World) : Calls Tryd.prog 41 #[.int .u8 37, .string ⟨#[60]⟩] w fun e w' => e = .returned (.bool true) ∧ w = w' := by
  go_enter Tryd.func41, Tryd.ntmps41
  go_wp2
  go_ret
  exact ⟨rfl, rfl⟩
set_option maxRecDepth 100000 in
theorem op_37_11 (w : World) : Calls Tryd.prog 41 #[.int .u8 37, .string ⟨#[60, 61]⟩] w fun e w' => e = .returned (.bool true) ∧ w = w' := by
  go_enter Tryd.func41, Tryd.ntmps41
  go_wp2
  go_ret
  exact ⟨rfl, rfl⟩
set_option maxRecDepth 100000 in
theorem op_37_12 (w : World) : Calls Tryd.prog 41 #[.int .u8 37, .string ⟨#[62]⟩] w fun e w' => e = .returned (.bool true) ∧ w = w' := by
  go_enter Tryd.func41, Tryd.ntmps41
  go_wp2
  go_ret
  exact ⟨rfl, rfl⟩
set_option maxRecDepth 100000 in
theorem op_37_13 (w : World) : Calls Tryd.prog 41 #[.int .u8 37, .string ⟨#[62, 61]⟩] w fun e w' => e = .returned (.bool true) ∧ w = w' := by
  go_enter Tryd.func41, Tryd.ntmps41
  go_wp2
  go_ret
  exact ⟨rfl, rfl⟩
set_option maxRecDepth 100000 in
theorem op_37_14 (w : World) : Calls Tryd.prog 41 #[.int .u8 37, .string ⟨#[124]⟩] w fun e w' => e = .returned (.bool true) ∧ w = w' := by
  go_enter Tryd.func41, Tryd.ntmps41
  go_wp2
  go_ret
  exact ⟨rfl, rfl⟩
set_option maxRecDepth 100000 in
theorem op_37_15 (w : World) : Calls Tryd.prog 41 #[.int .u8 37, .string ⟨#[42]⟩] w fun e w' => e = .returned (.bool true) ∧ w = w' := by
  go_enter Tryd.func41, Tryd.ntmps41
  go_wp2
  go_ret
  exact ⟨rfl, rfl⟩
set_option maxRecDepth 100000 in
theorem op_37_16 (w : World) : Calls Tryd.prog 41 #[.int .u8 37, .string ⟨#[47]⟩] w fun e w' => e = .returned (.bool true) ∧ w = w' := by
  go_enter Tryd.func41, Tryd.ntmps41
  go_wp2
  go_ret
  exact ⟨rfl, rfl⟩
set_option maxRecDepth 100000 in
theorem op_37_17 (w : World) : Calls Tryd.prog 41 #[.int .u8 37, .string ⟨#[37]⟩] w fun e w' => e = .returned (.bool true) ∧ w = w' := by
  go_enter Tryd.func41, Tryd.ntmps41
  go_wp2
  go_ret
  exact ⟨rfl, rfl⟩
set_option maxRecDepth 100000 in
theorem op_37_18 (w : World) : Calls Tryd.prog 41 #[.int .u8 37, .string ⟨#[60, 60]⟩] w fun e w' => e = .returned (.bool true) ∧ w = w' := by
  go_enter Tryd.func41, Tryd.ntmps41
  go_wp2
  go_ret
  exact ⟨rfl, rfl⟩
set_option maxRecDepth 100000 in
theorem op_37_19 (w : World) : Calls Tryd.prog 41 #[.int .u8 37, .string ⟨#[62, 62]⟩] w fun e w' => e = .returned (.bool true) ∧ w = w' := by
  go_enter Tryd.func41, Tryd.ntmps41
  go_wp2
  go_ret
  exact ⟨rfl, rfl⟩
set_option maxRecDepth 100000 in
theorem op_37_20 (w : World) : Calls Tryd.prog 41 #[.int .u8 37, .string ⟨#[38, 94]⟩] w fun e w' => e = .returned (.bool true) ∧ w = w' := by
  go_enter Tryd.func41, Tryd.ntmps41
  go_wp2
  go_ret
  exact ⟨rfl, rfl⟩
set_option maxRecDepth 100000 in
theorem op_37_21 (w : World) : Calls Tryd.prog 41 #[.int .u8 37, .string ⟨#[61]⟩] w fun e w' => e = .returned (.bool false) ∧ w = w' := by
  go_enter Tryd.func41, Tryd.ntmps41
  go_wp2
  go_ret
  exact ⟨rfl, rfl⟩
set_option maxRecDepth 100000 in
theorem op_37_22 (w : World) : Calls Tryd.prog 41 #[.int .u8 37, .string ⟨#[58, 61]⟩] w fun e w' => e = .returned (.bool false) ∧ w = w' := by
  go_enter Tryd.func41, Tryd.ntmps41
  go_wp2
  go_ret
  exact ⟨rfl, rfl⟩
set_option maxRecDepth 100000 in
theorem op_37_23 (w : World) : Calls Tryd.prog 41 #[.int .u8 37, .string ⟨#[43, 61]⟩] w fun e w' => e = .returned (.bool false) ∧ w = w' := by
  go_enter Tryd.func41, Tryd.ntmps41
  go_wp2
  go_ret
  exact ⟨rfl, rfl⟩
set_option maxRecDepth 100000 in
theorem op_37_24 (w : World) : Calls Tryd.prog 41 #[.int .u8 37, .string ⟨#[45, 61]⟩] w fun e w' => e = .returned (.bool false) ∧ w = w' := by
  go_enter Tryd.func41, Tryd.ntmps41
  go_wp2
  go_ret
  exact ⟨rfl, rfl⟩
set_option maxRecDepth 100000 in
theorem op_37_25 (w : World) : Calls Tryd.prog 41 #[.int .u8 37, .string ⟨#[42, 61]⟩] w fun e w' => e = .returned (.bool false) ∧ w = w' := by
  go_enter Tryd.func41, Tryd.ntmps41
  go_wp2
  go_ret
  exact ⟨rfl, rfl⟩
set_option maxRecDepth 100000 in
theorem op_37_26 (w : World) : Calls Tryd.prog 41 #[.int .u8 37, .string ⟨#[47, 61]⟩] w fun e w' => e = .returned (.bool false) ∧ w = w' := by
  go_enter Tryd.func41, Tryd.ntmps41
  go_wp2
  go_ret
  exact ⟨rfl, rfl⟩
set_option maxRecDepth 100000 in
theorem op_37_27 (w : World) : Calls Tryd.prog 41 #[.int .u8 37, .string ⟨#[37, 61]⟩] w fun e w' => e = .returned (.bool false) ∧ w = w' := by
  go_enter Tryd.func41, Tryd.ntmps41
  go_wp2
  go_ret
  exact ⟨rfl, rfl⟩
set_option maxRecDepth 100000 in
theorem op_37_28 (w : World) : Calls Tryd.prog 41 #[.int .u8 37, .string ⟨#[38, 61]⟩] w fun e w' => e = .returned (.bool false) ∧ w = w' := by
  go_enter Tryd.func41, Tryd.ntmps41
  go_wp2
  go_ret
  exact ⟨rfl, rfl⟩
set_option maxRecDepth 100000 in
theorem op_37_29 (w : World) : Calls Tryd.prog 41 #[.int .u8 37, .string ⟨#[124, 61]⟩] w fun e w' => e = .returned (.bool false) ∧ w = w' := by
  go_enter Tryd.func41, Tryd.ntmps41
  go_wp2
  go_ret
  exact ⟨rfl, rfl⟩
set_option maxRecDepth 100000 in
theorem op_37_30 (w : World) : Calls Tryd.prog 41 #[.int .u8 37, .string ⟨#[94, 61]⟩] w fun e w' => e = .returned (.bool false) ∧ w = w' := by
  go_enter Tryd.func41, Tryd.ntmps41
  go_wp2
  go_ret
  exact ⟨rfl, rfl⟩
set_option maxRecDepth 100000 in
theorem op_37_31 (w : World) : Calls Tryd.prog 41 #[.int .u8 37, .string ⟨#[60, 60, 61]⟩] w fun e w' => e = .returned (.bool false) ∧ w = w' := by
  go_enter Tryd.func41, Tryd.ntmps41
  go_wp2
  go_ret
  exact ⟨rfl, rfl⟩
set_option maxRecDepth 100000 in
theorem op_37_32 (w : World) : Calls Tryd.prog 41 #[.int .u8 37, .string ⟨#[62, 62, 61]⟩] w fun e w' => e = .returned (.bool false) ∧ w = w' := by
  go_enter Tryd.func41, Tryd.ntmps41
  go_wp2
  go_ret
  exact ⟨rfl, rfl⟩
set_option maxRecDepth 100000 in
theorem op_37_33 (w : World) : Calls Tryd.prog 41 #[.int .u8 37, .string ⟨#[38, 94, 61]⟩] w fun e w' => e = .returned (.bool false) ∧ w = w' := by
  go_enter Tryd.func41, Tryd.ntmps41
  go_wp2
  go_ret
  exact ⟨rfl, rfl⟩
set_option maxRecDepth 100000 in
set_option maxHeartbeats 4000000 in
theorem op_37_no (s : ByteArray) (w : World) (h0 : (s.toList == [43]) = false) (h1 : (s.toList == [45]) = false) (h2 : (s.toList == [94]) = false) (h3 : (s.toList == [38]) = false) (h4 : (s.toList == [33]) = false) (h5 : (s.toList == [60, 45]) = false) (h6 : (s.toList == [124, 124]) = false) (h7 : (s.toList == [38, 38]) = false) (h8 : (s.toList == [61, 61]) = false) (h9 : (s.toList == [33, 61]) = false) (h10 : (s.toList == [60]) = false) (h11 : (s.toList == [60, 61]) = false) (h12 : (s.toList == [62]) = false) (h13 : (s.toList == [62, 61]) = false) (h14 : (s.toList == [124]) = false) (h15 : (s.toList == [42]) = false) (h16 : (s.toList == [47]) = false) (h17 : (s.toList == [37]) = false) (h18 : (s.toList == [60, 60]) = false) (h19 : (s.toList == [62, 62]) = false) (h20 : (s.toList == [38, 94]) = false) (h21 : (s.toList == [61]) = false) (h22 : (s.toList == [58, 61]) = false) (h23 : (s.toList == [43, 61]) = false) (h24 : (s.toList == [45, 61]) = false) (h25 : (s.toList == [42, 61]) = false) (h26 : (s.toList == [47, 61]) = false) (h27 : (s.toList == [37, 61]) = false) (h28 : (s.toList == [38, 61]) = false) (h29 : (s.toList == [124, 61]) = false) (h30 : (s.toList == [94, 61]) = false) (h31 : (s.toList == [60, 60, 61]) = false) (h32 : (s.toList == [62, 62, 61]) = false) (h33 : (s.toList == [38, 94, 61]) = false) : Calls Tryd.prog 41 #[.int .u8 37, .string s] w fun e w' => e = .returned (.bool false) ∧ w = w' := by
  go_enter Tryd.func41, Tryd.ntmps41
  go_wp2
  go_ret
  exact ⟨rfl, rfl⟩
theorem operator_37 (s : ByteArray) (w : World) : Calls Tryd.prog 41 #[.int .u8 37, .string s] w fun e w' => e = .returned (.bool (mayW 37 s.toList)) ∧ w = w' := by

  by_cases h0 : s.toList = [43]
  · rw [show mayW 37 s.toList = true by rw [h0]; rfl, str_lit h0 ⟨#[43]⟩ rfl]; exact op_37_0 w
  by_cases h1 : s.toList = [45]
  · rw [show mayW 37 s.toList = true by rw [h1]; rfl, str_lit h1 ⟨#[45]⟩ rfl]; exact op_37_1 w
  by_cases h2 : s.toList = [94]
  · rw [show mayW 37 s.toList = true by rw [h2]; rfl, str_lit h2 ⟨#[94]⟩ rfl]; exact op_37_2 w
  by_cases h3 : s.toList = [38]
  · rw [show mayW 37 s.toList = true by rw [h3]; rfl, str_lit h3 ⟨#[38]⟩ rfl]; exact op_37_3 w
  by_cases h4 : s.toList = [33]
  · rw [show mayW 37 s.toList = false by rw [h4]; rfl, str_lit h4 ⟨#[33]⟩ rfl]; exact op_37_4 w
  by_cases h5 : s.toList = [60, 45]
  · rw [show mayW 37 s.toList = false by rw [h5]; rfl, str_lit h5 ⟨#[60, 45]⟩ rfl]; exact op_37_5 w
  by_cases h6 : s.toList = [124, 124]
  · rw [show mayW 37 s.toList = true by rw [h6]; rfl, str_lit h6 ⟨#[124, 124]⟩ rfl]; exact op_37_6 w
  by_cases h7 : s.toList = [38, 38]
  · rw [show mayW 37 s.toList = true by rw [h7]; rfl, str_lit h7 ⟨#[38, 38]⟩ rfl]; exact op_37_7 w
  by_cases h8 : s.toList = [61, 61]
  · rw [show mayW 37 s.toList = true by rw [h8]; rfl, str_lit h8 ⟨#[61, 61]⟩ rfl]; exact op_37_8 w
  by_cases h9 : s.toList = [33, 61]
  · rw [show mayW 37 s.toList = true by rw [h9]; rfl, str_lit h9 ⟨#[33, 61]⟩ rfl]; exact op_37_9 w
  by_cases h10 : s.toList = [60]
  · rw [show mayW 37 s.toList = true by rw [h10]; rfl, str_lit h10 ⟨#[60]⟩ rfl]; exact op_37_10 w
  by_cases h11 : s.toList = [60, 61]
  · rw [show mayW 37 s.toList = true by rw [h11]; rfl, str_lit h11 ⟨#[60, 61]⟩ rfl]; exact op_37_11 w
  by_cases h12 : s.toList = [62]
  · rw [show mayW 37 s.toList = true by rw [h12]; rfl, str_lit h12 ⟨#[62]⟩ rfl]; exact op_37_12 w
  by_cases h13 : s.toList = [62, 61]
  · rw [show mayW 37 s.toList = true by rw [h13]; rfl, str_lit h13 ⟨#[62, 61]⟩ rfl]; exact op_37_13 w
  by_cases h14 : s.toList = [124]
  · rw [show mayW 37 s.toList = true by rw [h14]; rfl, str_lit h14 ⟨#[124]⟩ rfl]; exact op_37_14 w
  by_cases h15 : s.toList = [42]
  · rw [show mayW 37 s.toList = true by rw [h15]; rfl, str_lit h15 ⟨#[42]⟩ rfl]; exact op_37_15 w
  by_cases h16 : s.toList = [47]
  · rw [show mayW 37 s.toList = true by rw [h16]; rfl, str_lit h16 ⟨#[47]⟩ rfl]; exact op_37_16 w
  by_cases h17 : s.toList = [37]
  · rw [show mayW 37 s.toList = true by rw [h17]; rfl, str_lit h17 ⟨#[37]⟩ rfl]; exact op_37_17 w
  by_cases h18 : s.toList = [60, 60]
  · rw [show mayW 37 s.toList = true by rw [h18]; rfl, str_lit h18 ⟨#[60, 60]⟩ rfl]; exact op_37_18 w
  by_cases h19 : s.toList = [62, 62]
  · rw [show mayW 37 s.toList = true by rw [h19]; rfl, str_lit h19 ⟨#[62, 62]⟩ rfl]; exact op_37_19 w
  by_cases h20 : s.toList = [38, 94]
  · rw [show mayW 37 s.toList = true by rw [h20]; rfl, str_lit h20 ⟨#[38, 94]⟩ rfl]; exact op_37_20 w
  by_cases h21 : s.toList = [61]
  · rw [show mayW 37 s.toList = false by rw [h21]; rfl, str_lit h21 ⟨#[61]⟩ rfl]; exact op_37_21 w
  by_cases h22 : s.toList = [58, 61]
  · rw [show mayW 37 s.toList = false by rw [h22]; rfl, str_lit h22 ⟨#[58, 61]⟩ rfl]; exact op_37_22 w
  by_cases h23 : s.toList = [43, 61]
  · rw [show mayW 37 s.toList = false by rw [h23]; rfl, str_lit h23 ⟨#[43, 61]⟩ rfl]; exact op_37_23 w
  by_cases h24 : s.toList = [45, 61]
  · rw [show mayW 37 s.toList = false by rw [h24]; rfl, str_lit h24 ⟨#[45, 61]⟩ rfl]; exact op_37_24 w
  by_cases h25 : s.toList = [42, 61]
  · rw [show mayW 37 s.toList = false by rw [h25]; rfl, str_lit h25 ⟨#[42, 61]⟩ rfl]; exact op_37_25 w
  by_cases h26 : s.toList = [47, 61]
  · rw [show mayW 37 s.toList = false by rw [h26]; rfl, str_lit h26 ⟨#[47, 61]⟩ rfl]; exact op_37_26 w
  by_cases h27 : s.toList = [37, 61]
  · rw [show mayW 37 s.toList = false by rw [h27]; rfl, str_lit h27 ⟨#[37, 61]⟩ rfl]; exact op_37_27 w
  by_cases h28 : s.toList = [38, 61]
  · rw [show mayW 37 s.toList = false by rw [h28]; rfl, str_lit h28 ⟨#[38, 61]⟩ rfl]; exact op_37_28 w
  by_cases h29 : s.toList = [124, 61]
  · rw [show mayW 37 s.toList = false by rw [h29]; rfl, str_lit h29 ⟨#[124, 61]⟩ rfl]; exact op_37_29 w
  by_cases h30 : s.toList = [94, 61]
  · rw [show mayW 37 s.toList = false by rw [h30]; rfl, str_lit h30 ⟨#[94, 61]⟩ rfl]; exact op_37_30 w
  by_cases h31 : s.toList = [60, 60, 61]
  · rw [show mayW 37 s.toList = false by rw [h31]; rfl, str_lit h31 ⟨#[60, 60, 61]⟩ rfl]; exact op_37_31 w
  by_cases h32 : s.toList = [62, 62, 61]
  · rw [show mayW 37 s.toList = false by rw [h32]; rfl, str_lit h32 ⟨#[62, 62, 61]⟩ rfl]; exact op_37_32 w
  by_cases h33 : s.toList = [38, 94, 61]
  · rw [show mayW 37 s.toList = false by rw [h33]; rfl, str_lit h33 ⟨#[38, 94, 61]⟩ rfl]; exact op_37_33 w
  rw [show mayW 37 s.toList = false by rw [mayW_37]; simp [*]]
  exact op_37_no s w (beq_eq_false_iff_ne.2 h0) (beq_eq_false_iff_ne.2 h1) (beq_eq_false_iff_ne.2 h2) (beq_eq_false_iff_ne.2 h3) (beq_eq_false_iff_ne.2 h4) (beq_eq_false_iff_ne.2 h5) (beq_eq_false_iff_ne.2 h6) (beq_eq_false_iff_ne.2 h7) (beq_eq_false_iff_ne.2 h8) (beq_eq_false_iff_ne.2 h9) (beq_eq_false_iff_ne.2 h10) (beq_eq_false_iff_ne.2 h11) (beq_eq_false_iff_ne.2 h12) (beq_eq_false_iff_ne.2 h13) (beq_eq_false_iff_ne.2 h14) (beq_eq_false_iff_ne.2 h15) (beq_eq_false_iff_ne.2 h16) (beq_eq_false_iff_ne.2 h17) (beq_eq_false_iff_ne.2 h18) (beq_eq_false_iff_ne.2 h19) (beq_eq_false_iff_ne.2 h20) (beq_eq_false_iff_ne.2 h21) (beq_eq_false_iff_ne.2 h22) (beq_eq_false_iff_ne.2 h23) (beq_eq_false_iff_ne.2 h24) (beq_eq_false_iff_ne.2 h25) (beq_eq_false_iff_ne.2 h26) (beq_eq_false_iff_ne.2 h27) (beq_eq_false_iff_ne.2 h28) (beq_eq_false_iff_ne.2 h29) (beq_eq_false_iff_ne.2 h30) (beq_eq_false_iff_ne.2 h31) (beq_eq_false_iff_ne.2 h32) (beq_eq_false_iff_ne.2 h33)
set_option maxRecDepth 100000 in
theorem op_53_0 (w : World) : Calls Tryd.prog 41 #[.int .u8 53, .string ⟨#[43]⟩] w fun e w' => e = .returned (.bool false) ∧ w = w' := by
  go_enter Tryd.func41, Tryd.ntmps41
  go_wp2
  go_ret
  exact ⟨rfl, rfl⟩
set_option maxRecDepth 100000 in
theorem op_53_1 (w : World) : Calls Tryd.prog 41 #[.int .u8 53, .string ⟨#[45]⟩] w fun e w' => e = .returned (.bool false) ∧ w = w' := by
  go_enter Tryd.func41, Tryd.ntmps41
  go_wp2
  go_ret
  exact ⟨rfl, rfl⟩
set_option maxRecDepth 100000 in
theorem op_53_2 (w : World) : Calls Tryd.prog 41 #[.int .u8 53, .string ⟨#[94]⟩] w fun e w' => e = .returned (.bool false) ∧ w = w' := by
  go_enter Tryd.func41, Tryd.ntmps41
  go_wp2
  go_ret
  exact ⟨rfl, rfl⟩
set_option maxRecDepth 100000 in
theorem op_53_3 (w : World) : Calls Tryd.prog 41 #[.int .u8 53, .string ⟨#[38]⟩] w fun e w' => e = .returned (.bool false) ∧ w = w' := by
  go_enter Tryd.func41, Tryd.ntmps41
  go_wp2
  go_ret
  exact ⟨rfl, rfl⟩
set_option maxRecDepth 100000 in
theorem op_53_4 (w : World) : Calls Tryd.prog 41 #[.int .u8 53, .string ⟨#[33]⟩] w fun e w' => e = .returned (.bool false) ∧ w = w' := by
  go_enter Tryd.func41, Tryd.ntmps41
  go_wp2
  go_ret
  exact ⟨rfl, rfl⟩
set_option maxRecDepth 100000 in
theorem op_53_5 (w : World) : Calls Tryd.prog 41 #[.int .u8 53, .string ⟨#[60, 45]⟩] w fun e w' => e = .returned (.bool false) ∧ w = w' := by
  go_enter Tryd.func41, Tryd.ntmps41
  go_wp2
  go_ret
  exact ⟨rfl, rfl⟩
set_option maxRecDepth 100000 in
theorem op_53_6 (w : World) : Calls Tryd.prog 41 #[.int .u8 53, .string ⟨#[124, 124]⟩] w fun e w' => e = .returned (.bool false) ∧ w = w' := by
  go_enter Tryd.func41, Tryd.ntmps41
  go_wp2
  go_ret
  exact ⟨rfl, rfl⟩
set_option maxRecDepth 100000 in
theorem op_53_7 (w : World) : Calls Tryd.prog 41 #[.int .u8 53, .string ⟨#[38, 38]⟩] w fun e w' => e = .returned (.bool false) ∧ w = w' := by
  go_enter Tryd.func41, Tryd.ntmps41
  go_wp2
  go_ret
  exact ⟨rfl, rfl⟩
set_option maxRecDepth 100000 in
theorem op_53_8 (w : World) : Calls Tryd.prog 41 #[.int .u8 53, .string ⟨#[61, 61]⟩] w fun e w' => e = .returned (.bool false) ∧ w = w' := by
  go_enter Tryd.func41, Tryd.ntmps41
  go_wp2
  go_ret
  exact ⟨rfl, rfl⟩
set_option maxRecDepth 100000 in
theorem op_53_9 (w : World) : Calls Tryd.prog 41 #[.int .u8 53, .string ⟨#[33, 61]⟩] w fun e w' => e = .returned (.bool false) ∧ w = w' := by
  go_enter Tryd.func41, Tryd.ntmps41
  go_wp2
  go_ret
  exact ⟨rfl, rfl⟩
set_option maxRecDepth 100000 in
theorem op_53_10 (w : World) : Calls Tryd.prog 41 #[.int .u8 53, .string ⟨#[60]⟩] w fun e w' => e = .returned (.bool false) ∧ w = w' := by
  go_enter Tryd.func41, Tryd.ntmps41
  go_wp2
  go_ret
  exact ⟨rfl, rfl⟩
set_option maxRecDepth 100000 in
theorem op_53_11 (w : World) : Calls Tryd.prog 41 #[.int .u8 53, .string ⟨#[60, 61]⟩] w fun e w' => e = .returned (.bool false) ∧ w = w' := by
  go_enter Tryd.func41, Tryd.ntmps41
  go_wp2
  go_ret
  exact ⟨rfl, rfl⟩
set_option maxRecDepth 100000 in
theorem op_53_12 (w : World) : Calls Tryd.prog 41 #[.int .u8 53, .string ⟨#[62]⟩] w fun e w' => e = .returned (.bool false) ∧ w = w' := by
  go_enter Tryd.func41, Tryd.ntmps41
  go_wp2
  go_ret
  exact ⟨rfl, rfl⟩
set_option maxRecDepth 100000 in
theorem op_53_13 (w : World) : Calls Tryd.prog 41 #[.int .u8 53, .string ⟨#[62, 61]⟩] w fun e w' => e = .returned (.bool false) ∧ w = w' := by
  go_enter Tryd.func41, Tryd.ntmps41
  go_wp2
  go_ret
  exact ⟨rfl, rfl⟩
set_option maxRecDepth 100000 in
theorem op_53_14 (w : World) : Calls Tryd.prog 41 #[.int .u8 53, .string ⟨#[124]⟩] w fun e w' => e = .returned (.bool false) ∧ w = w' := by
  go_enter Tryd.func41, Tryd.ntmps41
  go_wp2
  go_ret
  exact ⟨rfl, rfl⟩
set_option maxRecDepth 100000 in
theorem op_53_15 (w : World) : Calls Tryd.prog 41 #[.int .u8 53, .string ⟨#[42]⟩] w fun e w' => e = .returned (.bool false) ∧ w = w' := by
  go_enter Tryd.func41, Tryd.ntmps41
  go_wp2
  go_ret
  exact ⟨rfl, rfl⟩
set_option maxRecDepth 100000 in
theorem op_53_16 (w : World) : Calls Tryd.prog 41 #[.int .u8 53, .string ⟨#[47]⟩] w fun e w' => e = .returned (.bool false) ∧ w = w' := by
  go_enter Tryd.func41, Tryd.ntmps41
  go_wp2
  go_ret
  exact ⟨rfl, rfl⟩
set_option maxRecDepth 100000 in
theorem op_53_17 (w : World) : Calls Tryd.prog 41 #[.int .u8 53, .string ⟨#[37]⟩] w fun e w' => e = .returned (.bool false) ∧ w = w' := by
  go_enter Tryd.func41, Tryd.ntmps41
  go_wp2
  go_ret
  exact ⟨rfl, rfl⟩
set_option maxRecDepth 100000 in
theorem op_53_18 (w : World) : Calls Tryd.prog 41 #[.int .u8 53, .string ⟨#[60, 60]⟩] w fun e w' => e = .returned (.bool false) ∧ w = w' := by
  go_enter Tryd.func41, Tryd.ntmps41
  go_wp2
  go_ret
  exact ⟨rfl, rfl⟩
set_option maxRecDepth 100000 in
theorem op_53_19 (w : World) : Calls Tryd.prog 41 #[.int .u8 53, .string ⟨#[62, 62]⟩] w fun e w' => e = .returned (.bool false) ∧ w = w' := by
  go_enter Tryd.func41, Tryd.ntmps41
  go_wp2
  go_ret
  exact ⟨rfl, rfl⟩
set_option maxRecDepth 100000 in
theorem op_53_20 (w : World) : Calls Tryd.prog 41 #[.int .u8 53, .string ⟨#[38, 94]⟩] w fun e w' => e = .returned (.bool false) ∧ w = w' := by
  go_enter Tryd.func41, Tryd.ntmps41
  go_wp2
  go_ret
  exact ⟨rfl, rfl⟩
set_option maxRecDepth 100000 in
theorem op_53_21 (w : World) : Calls Tryd.prog 41 #[.int .u8 53, .string ⟨#[61]⟩] w fun e w' => e = .returned (.bool true) ∧ w = w' := by
  go_enter Tryd.func41, Tryd.ntmps41
  go_wp2
  go_ret
  exact ⟨rfl, rfl⟩
set_option maxRecDepth 100000 in
theorem op_53_22 (w : World) : Calls Tryd.prog 41 #[.int .u8 53, .string ⟨#[58, 61]⟩] w fun e w' => e = .returned (.bool true) ∧ w = w' := by
  go_enter Tryd.func41, Tryd.ntmps41
  go_wp2
  go_ret
  exact ⟨rfl, rfl⟩
set_option maxRecDepth 100000 in
theorem op_53_23 (w : World) : Calls Tryd.prog 41 #[.int .u8 53, .string ⟨#[43, 61]⟩] w fun e w' => e = .returned (.bool true) ∧ w = w' := by
  go_enter Tryd.func41, Tryd.ntmps41
  go_wp2
  go_ret
  exact ⟨rfl, rfl⟩
set_option maxRecDepth 100000 in
theorem op_53_24 (w : World) : Calls Tryd.prog 41 #[.int .u8 53, .string ⟨#[45, 61]⟩] w fun e w' => e = .returned (.bool true) ∧ w = w' := by
  go_enter Tryd.func41, Tryd.ntmps41
  go_wp2
  go_ret
  exact ⟨rfl, rfl⟩
set_option maxRecDepth 100000 in
theorem op_53_25 (w : World) : Calls Tryd.prog 41 #[.int .u8 53, .string ⟨#[42, 61]⟩] w fun e w' => e = .returned (.bool true) ∧ w = w' := by
  go_enter Tryd.func41, Tryd.ntmps41
  go_wp2
  go_ret
  exact ⟨rfl, rfl⟩
set_option maxRecDepth 100000 in
theorem op_53_26 (w : World) : Calls Tryd.prog 41 #[.int .u8 53, .string ⟨#[47, 61]⟩] w fun e w' => e = .returned (.bool true) ∧ w = w' := by
  go_enter Tryd.func41, Tryd.ntmps41
  go_wp2
  go_ret
  exact ⟨rfl, rfl⟩
set_option maxRecDepth 100000 in
theorem op_53_27 (w : World) : Calls Tryd.prog 41 #[.int .u8 53, .string ⟨#[37, 61]⟩] w fun e w' => e = .returned (.bool true) ∧ w = w' := by
  go_enter Tryd.func41, Tryd.ntmps41
  go_wp2
  go_ret
  exact ⟨rfl, rfl⟩
set_option maxRecDepth 100000 in
theorem op_53_28 (w : World) : Calls Tryd.prog 41 #[.int .u8 53, .string ⟨#[38, 61]⟩] w fun e w' => e = .returned (.bool true) ∧ w = w' := by
  go_enter Tryd.func41, Tryd.ntmps41
  go_wp2
  go_ret
  exact ⟨rfl, rfl⟩
set_option maxRecDepth 100000 in
theorem op_53_29 (w : World) : Calls Tryd.prog 41 #[.int .u8 53, .string ⟨#[124, 61]⟩] w fun e w' => e = .returned (.bool true) ∧ w = w' := by
  go_enter Tryd.func41, Tryd.ntmps41
  go_wp2
  go_ret
  exact ⟨rfl, rfl⟩
set_option maxRecDepth 100000 in
theorem op_53_30 (w : World) : Calls Tryd.prog 41 #[.int .u8 53, .string ⟨#[94, 61]⟩] w fun e w' => e = .returned (.bool true) ∧ w = w' := by
  go_enter Tryd.func41, Tryd.ntmps41
  go_wp2
  go_ret
  exact ⟨rfl, rfl⟩
set_option maxRecDepth 100000 in
theorem op_53_31 (w : World) : Calls Tryd.prog 41 #[.int .u8 53, .string ⟨#[60, 60, 61]⟩] w fun e w' => e = .returned (.bool true) ∧ w = w' := by
  go_enter Tryd.func41, Tryd.ntmps41
  go_wp2
  go_ret
  exact ⟨rfl, rfl⟩
set_option maxRecDepth 100000 in
theorem op_53_32 (w : World) : Calls Tryd.prog 41 #[.int .u8 53, .string ⟨#[62, 62, 61]⟩] w fun e w' => e = .returned (.bool true) ∧ w = w' := by
  go_enter Tryd.func41, Tryd.ntmps41
  go_wp2
  go_ret
  exact ⟨rfl, rfl⟩
set_option maxRecDepth 100000 in
theorem op_53_33 (w : World) : Calls Tryd.prog 41 #[.int .u8 53, .string ⟨#[38, 94, 61]⟩] w fun e w' => e = .returned (.bool true) ∧ w = w' := by
  go_enter Tryd.func41, Tryd.ntmps41
  go_wp2
  go_ret
  exact ⟨rfl, rfl⟩
set_option maxRecDepth 100000 in
set_option maxHeartbeats 4000000 in
theorem op_53_no (s : ByteArray) (w : World) (h0 : (s.toList == [43]) = false) (h1 : (s.toList == [45]) = false) (h2 : (s.toList == [94]) = false) (h3 : (s.toList == [38]) = false) (h4 : (s.toList == [33]) = false) (h5 : (s.toList == [60, 45]) = false) (h6 : (s.toList == [124, 124]) = false) (h7 : (s.toList == [38, 38]) = false) (h8 : (s.toList == [61, 61]) = false) (h9 : (s.toList == [33, 61]) = false) (h10 : (s.toList == [60]) = false) (h11 : (s.toList == [60, 61]) = false) (h12 : (s.toList == [62]) = false) (h13 : (s.toList == [62, 61]) = false) (h14 : (s.toList == [124]) = false) (h15 : (s.toList == [42]) = false) (h16 : (s.toList == [47]) = false) (h17 : (s.toList == [37]) = false) (h18 : (s.toList == [60, 60]) = false) (h19 : (s.toList == [62, 62]) = false) (h20 : (s.toList == [38, 94]) = false) (h21 : (s.toList == [61]) = false) (h22 : (s.toList == [58, 61]) = false) (h23 : (s.toList == [43, 61]) = false) (h24 : (s.toList == [45, 61]) = false) (h25 : (s.toList == [42, 61]) = false) (h26 : (s.toList == [47, 61]) = false) (h27 : (s.toList == [37, 61]) = false) (h28 : (s.toList == [38, 61]) = false) (h29 : (s.toList == [124, 61]) = false) (h30 : (s.toList == [94, 61]) = false) (h31 : (s.toList == [60, 60, 61]) = false) (h32 : (s.toList == [62, 62, 61]) = false) (h33 : (s.toList == [38, 94, 61]) = false) : Calls Tryd.prog 41 #[.int .u8 53, .string s] w fun e w' => e = .returned (.bool false) ∧ w = w' := by
  go_enter Tryd.func41, Tryd.ntmps41
  go_wp2
  go_ret
  exact ⟨rfl, rfl⟩
theorem operator_53 (s : ByteArray) (w : World) : Calls Tryd.prog 41 #[.int .u8 53, .string s] w fun e w' => e = .returned (.bool (mayW 53 s.toList)) ∧ w = w' := by

  by_cases h0 : s.toList = [43]
  · rw [show mayW 53 s.toList = false by rw [h0]; rfl, str_lit h0 ⟨#[43]⟩ rfl]; exact op_53_0 w
  by_cases h1 : s.toList = [45]
  · rw [show mayW 53 s.toList = false by rw [h1]; rfl, str_lit h1 ⟨#[45]⟩ rfl]; exact op_53_1 w
  by_cases h2 : s.toList = [94]
  · rw [show mayW 53 s.toList = false by rw [h2]; rfl, str_lit h2 ⟨#[94]⟩ rfl]; exact op_53_2 w
  by_cases h3 : s.toList = [38]
  · rw [show mayW 53 s.toList = false by rw [h3]; rfl, str_lit h3 ⟨#[38]⟩ rfl]; exact op_53_3 w
  by_cases h4 : s.toList = [33]
  · rw [show mayW 53 s.toList = false by rw [h4]; rfl, str_lit h4 ⟨#[33]⟩ rfl]; exact op_53_4 w
  by_cases h5 : s.toList = [60, 45]
  · rw [show mayW 53 s.toList = false by rw [h5]; rfl, str_lit h5 ⟨#[60, 45]⟩ rfl]; exact op_53_5 w
  by_cases h6 : s.toList = [124, 124]
  · rw [show mayW 53 s.toList = false by rw [h6]; rfl, str_lit h6 ⟨#[124, 124]⟩ rfl]; exact op_53_6 w
  by_cases h7 : s.toList = [38, 38]
  · rw [show mayW 53 s.toList = false by rw [h7]; rfl, str_lit h7 ⟨#[38, 38]⟩ rfl]; exact op_53_7 w
  by_cases h8 : s.toList = [61, 61]
  · rw [show mayW 53 s.toList = false by rw [h8]; rfl, str_lit h8 ⟨#[61, 61]⟩ rfl]; exact op_53_8 w
  by_cases h9 : s.toList = [33, 61]
  · rw [show mayW 53 s.toList = false by rw [h9]; rfl, str_lit h9 ⟨#[33, 61]⟩ rfl]; exact op_53_9 w
  by_cases h10 : s.toList = [60]
  · rw [show mayW 53 s.toList = false by rw [h10]; rfl, str_lit h10 ⟨#[60]⟩ rfl]; exact op_53_10 w
  by_cases h11 : s.toList = [60, 61]
  · rw [show mayW 53 s.toList = false by rw [h11]; rfl, str_lit h11 ⟨#[60, 61]⟩ rfl]; exact op_53_11 w
  by_cases h12 : s.toList = [62]
  · rw [show mayW 53 s.toList = false by rw [h12]; rfl, str_lit h12 ⟨#[62]⟩ rfl]; exact op_53_12 w
  by_cases h13 : s.toList = [62, 61]
  · rw [show mayW 53 s.toList = false by rw [h13]; rfl, str_lit h13 ⟨#[62, 61]⟩ rfl]; exact op_53_13 w
  by_cases h14 : s.toList = [124]
  · rw [show mayW 53 s.toList = false by rw [h14]; rfl, str_lit h14 ⟨#[124]⟩ rfl]; exact op_53_14 w
  by_cases h15 : s.toList = [42]
  · rw [show mayW 53 s.toList = false by rw [h15]; rfl, str_lit h15 ⟨#[42]⟩ rfl]; exact op_53_15 w
  by_cases h16 : s.toList = [47]
  · rw [show mayW 53 s.toList = false by rw [h16]; rfl, str_lit h16 ⟨#[47]⟩ rfl]; exact op_53_16 w
  by_cases h17 : s.toList = [37]
  · rw [show mayW 53 s.toList = false by rw [h17]; rfl, str_lit h17 ⟨#[37]⟩ rfl]; exact op_53_17 w
  by_cases h18 : s.toList = [60, 60]
  · rw [show mayW 53 s.toList = false by rw [h18]; rfl, str_lit h18 ⟨#[60, 60]⟩ rfl]; exact op_53_18 w
  by_cases h19 : s.toList = [62, 62]
  · rw [show mayW 53 s.toList = false by rw [h19]; rfl, str_lit h19 ⟨#[62, 62]⟩ rfl]; exact op_53_19 w
  by_cases h20 : s.toList = [38, 94]
  · rw [show mayW 53 s.toList = false by rw [h20]; rfl, str_lit h20 ⟨#[38, 94]⟩ rfl]; exact op_53_20 w
  by_cases h21 : s.toList = [61]
  · rw [show mayW 53 s.toList = true by rw [h21]; rfl, str_lit h21 ⟨#[61]⟩ rfl]; exact op_53_21 w
  by_cases h22 : s.toList = [58, 61]
  · rw [show mayW 53 s.toList = true by rw [h22]; rfl, str_lit h22 ⟨#[58, 61]⟩ rfl]; exact op_53_22 w
  by_cases h23 : s.toList = [43, 61]
  · rw [show mayW 53 s.toList = true by rw [h23]; rfl, str_lit h23 ⟨#[43, 61]⟩ rfl]; exact op_53_23 w
  by_cases h24 : s.toList = [45, 61]
  · rw [show mayW 53 s.toList = true by rw [h24]; rfl, str_lit h24 ⟨#[45, 61]⟩ rfl]; exact op_53_24 w
  by_cases h25 : s.toList = [42, 61]
  · rw [show mayW 53 s.toList = true by rw [h25]; rfl, str_lit h25 ⟨#[42, 61]⟩ rfl]; exact op_53_25 w
  by_cases h26 : s.toList = [47, 61]
  · rw [show mayW 53 s.toList = true by rw [h26]; rfl, str_lit h26 ⟨#[47, 61]⟩ rfl]; exact op_53_26 w
  by_cases h27 : s.toList = [37, 61]
  · rw [show mayW 53 s.toList = true by rw [h27]; rfl, str_lit h27 ⟨#[37, 61]⟩ rfl]; exact op_53_27 w
  by_cases h28 : s.toList = [38, 61]
  · rw [show mayW 53 s.toList = true by rw [h28]; rfl, str_lit h28 ⟨#[38, 61]⟩ rfl]; exact op_53_28 w
  by_cases h29 : s.toList = [124, 61]
  · rw [show mayW 53 s.toList = true by rw [h29]; rfl, str_lit h29 ⟨#[124, 61]⟩ rfl]; exact op_53_29 w
  by_cases h30 : s.toList = [94, 61]
  · rw [show mayW 53 s.toList = true by rw [h30]; rfl, str_lit h30 ⟨#[94, 61]⟩ rfl]; exact op_53_30 w
  by_cases h31 : s.toList = [60, 60, 61]
  · rw [show mayW 53 s.toList = true by rw [h31]; rfl, str_lit h31 ⟨#[60, 60, 61]⟩ rfl]; exact op_53_31 w
  by_cases h32 : s.toList = [62, 62, 61]
  · rw [show mayW 53 s.toList = true by rw [h32]; rfl, str_lit h32 ⟨#[62, 62, 61]⟩ rfl]; exact op_53_32 w
  by_cases h33 : s.toList = [38, 94, 61]
  · rw [show mayW 53 s.toList = true by rw [h33]; rfl, str_lit h33 ⟨#[38, 94, 61]⟩ rfl]; exact op_53_33 w
  rw [show mayW 53 s.toList = false by rw [mayW_53]; simp [*]]
  exact op_53_no s w (beq_eq_false_iff_ne.2 h0) (beq_eq_false_iff_ne.2 h1) (beq_eq_false_iff_ne.2 h2) (beq_eq_false_iff_ne.2 h3) (beq_eq_false_iff_ne.2 h4) (beq_eq_false_iff_ne.2 h5) (beq_eq_false_iff_ne.2 h6) (beq_eq_false_iff_ne.2 h7) (beq_eq_false_iff_ne.2 h8) (beq_eq_false_iff_ne.2 h9) (beq_eq_false_iff_ne.2 h10) (beq_eq_false_iff_ne.2 h11) (beq_eq_false_iff_ne.2 h12) (beq_eq_false_iff_ne.2 h13) (beq_eq_false_iff_ne.2 h14) (beq_eq_false_iff_ne.2 h15) (beq_eq_false_iff_ne.2 h16) (beq_eq_false_iff_ne.2 h17) (beq_eq_false_iff_ne.2 h18) (beq_eq_false_iff_ne.2 h19) (beq_eq_false_iff_ne.2 h20) (beq_eq_false_iff_ne.2 h21) (beq_eq_false_iff_ne.2 h22) (beq_eq_false_iff_ne.2 h23) (beq_eq_false_iff_ne.2 h24) (beq_eq_false_iff_ne.2 h25) (beq_eq_false_iff_ne.2 h26) (beq_eq_false_iff_ne.2 h27) (beq_eq_false_iff_ne.2 h28) (beq_eq_false_iff_ne.2 h29) (beq_eq_false_iff_ne.2 h30) (beq_eq_false_iff_ne.2 h31) (beq_eq_false_iff_ne.2 h32) (beq_eq_false_iff_ne.2 h33)
end Go.Proofs.YtoffjpgobhcipaaDoor.Trm
