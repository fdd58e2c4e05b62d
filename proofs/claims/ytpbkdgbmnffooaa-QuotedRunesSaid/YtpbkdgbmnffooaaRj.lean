/-
  Contract of the document's Base.
-/
import Derived.Test.YtpbkdgbmnffooaaRi
namespace Go.Proofs.Ytpbkdgbmnffooaa
open Go.ChangeShapes Go.WideShapes Go.ChangeAt Go.RowKit

/-- none of the digits below k is r -/
def Missed (r : Int) (k : Nat) : Prop := hexOf r = -1 ∨ (k : Int) ≤ hexOf r
theorem miss {r : Int} {k : Nat} (h : Missed r k) (h' : ¬ hexOf r = (k : Int)) : Missed r (k + 1) := by
  unfold Missed at h ⊢; omega
theorem missed_all {r : Int} (h : Missed r 16) : hexOf r = -1 := by
  unfold Missed at h
  rcases h with h | h
  · exact h
  · unfold hexOf at h ⊢
    split at h
    · omega
    · split at h
      · omega
      · split at h <;> omega
set_option maxHeartbeats 4000000 in
theorem rbase_any (r : Int) (w : World) :
    Calls Try.prog 47 #[.int .i64 r] w fun e w' => e = .returned (.int .i64 (hexOf r)) ∧ w = w' := by
  go_enter Try.func47, Try.ntmps47
  go_wp2
  go_loop [5] (fun i => ∃ (k : Nat) (z : Int), z = k ∧ k ≤ 16 ∧ i = .int .i64 z ∧ Missed r k) (fun i => 16 - (intOf i).toNat)
  case atStart => exact ⟨0, 0, rfl, by omega, rfl, by unfold Missed hexOf; split <;> (try split) <;> (try split) <;> omega⟩
  case round =>
    obtain ⟨k, z, hz, hk, rfl, HP⟩ := hrel
    by_cases hlt : k < 16
    · clear hk
      rcases (by omega : k = 0 ∨ k = 1 ∨ k = 2 ∨ k = 3 ∨ k = 4 ∨ k = 5 ∨ k = 6 ∨ k = 7 ∨ k = 8 ∨ k = 9 ∨ k = 10 ∨ k = 11 ∨ k = 12 ∨ k = 13 ∨ k = 14 ∨ k = 15) with rfl | rfl | rfl | rfl | rfl | rfl | rfl | rfl | rfl | rfl | rfl | rfl | rfl | rfl | rfl | rfl
      all_goals clear hlt
      · obtain rfl : z = 0 := by omega
        clear hz
        have f1 : wrap64 (((⟨#[48, 49, 50, 51, 52, 53, 54, 55, 56, 57, 65, 66, 67, 68, 69, 70]⟩ : ByteArray)[0]'(by decide)).toNat : Int) = 48 := by decide +kernel
        have f2 : wrap64 (((⟨#[48, 49, 50, 51, 52, 53, 54, 55, 56, 57, 97, 98, 99, 100, 101, 102]⟩ : ByteArray)[0]'(by decide)).toNat : Int) = 48 := by decide +kernel
        by_cases e1 : (48 : Int) = r
        · subst e1
          go_wp2
          go_ret
          exact ⟨ret_int (by decide), rfl⟩
        · · go_wp2
            go_round
            case rel => exact ⟨1, 1, rfl, by omega, rfl, miss HP (by unfold hexOf; split <;> (try split) <;> (try split) <;> omega)⟩
            case measure => simp [intOf]
      · obtain rfl : z = 1 := by omega
        clear hz
        have f1 : wrap64 (((⟨#[48, 49, 50, 51, 52, 53, 54, 55, 56, 57, 65, 66, 67, 68, 69, 70]⟩ : ByteArray)[1]'(by decide)).toNat : Int) = 49 := by decide +kernel
        have f2 : wrap64 (((⟨#[48, 49, 50, 51, 52, 53, 54, 55, 56, 57, 97, 98, 99, 100, 101, 102]⟩ : ByteArray)[1]'(by decide)).toNat : Int) = 49 := by decide +kernel
        by_cases e1 : (49 : Int) = r
        · subst e1
          go_wp2
          go_ret
          exact ⟨ret_int (by decide), rfl⟩
        · · go_wp2
            go_round
            case rel => exact ⟨2, 2, rfl, by omega, rfl, miss HP (by unfold hexOf; split <;> (try split) <;> (try split) <;> omega)⟩
            case measure => simp [intOf]
      · obtain rfl : z = 2 := by omega
        clear hz
        have f1 : wrap64 (((⟨#[48, 49, 50, 51, 52, 53, 54, 55, 56, 57, 65, 66, 67, 68, 69, 70]⟩ : ByteArray)[2]'(by decide)).toNat : Int) = 50 := by decide +kernel
        have f2 : wrap64 (((⟨#[48, 49, 50, 51, 52, 53, 54, 55, 56, 57, 97, 98, 99, 100, 101, 102]⟩ : ByteArray)[2]'(by decide)).toNat : Int) = 50 := by decide +kernel
        by_cases e1 : (50 : Int) = r
        · subst e1
          go_wp2
          go_ret
          exact ⟨ret_int (by decide), rfl⟩
        · · go_wp2
            go_round
            case rel => exact ⟨3, 3, rfl, by omega, rfl, miss HP (by unfold hexOf; split <;> (try split) <;> (try split) <;> omega)⟩
            case measure => simp [intOf]
      · obtain rfl : z = 3 := by omega
        clear hz
        have f1 : wrap64 (((⟨#[48, 49, 50, 51, 52, 53, 54, 55, 56, 57, 65, 66, 67, 68, 69, 70]⟩ : ByteArray)[3]'(by decide)).toNat : Int) = 51 := by decide +kernel
        have f2 : wrap64 (((⟨#[48, 49, 50, 51, 52, 53, 54, 55, 56, 57, 97, 98, 99, 100, 101, 102]⟩ : ByteArray)[3]'(by decide)).toNat : Int) = 51 := by decide +kernel
        by_cases e1 : (51 : Int) = r
        · subst e1
          go_wp2
          go_ret
          exact ⟨ret_int (by decide), rfl⟩
        · · go_wp2
            go_round
            case rel => exact ⟨4, 4, rfl, by omega, rfl, miss HP (by unfold hexOf; split <;> (try split) <;> (try split) <;> omega)⟩
            case measure => simp [intOf]
      · obtain rfl : z = 4 := by omega
        clear hz
        have f1 : wrap64 (((⟨#[48, 49, 50, 51, 52, 53, 54, 55, 56, 57, 65, 66, 67, 68, 69, 70]⟩ : ByteArray)[4]'(by decide)).toNat : Int) = 52 := by decide +kernel
        have f2 : wrap64 (((⟨#[48, 49, 50, 51, 52, 53, 54, 55, 56, 57, 97, 98, 99, 100, 101, 102]⟩ : ByteArray)[4]'(by decide)).toNat : Int) = 52 := by decide +kernel
        by_cases e1 : (52 : Int) = r
        · subst e1
          go_wp2
          go_ret
          exact ⟨ret_int (by decide), rfl⟩
        · · go_wp2
            go_round
            case rel => exact ⟨5, 5, rfl, by omega, rfl, miss HP (by unfold hexOf; split <;> (try split) <;> (try split) <;> omega)⟩
            case measure => simp [intOf]
      · obtain rfl : z = 5 := by omega
        clear hz
        have f1 : wrap64 (((⟨#[48, 49, 50, 51, 52, 53, 54, 55, 56, 57, 65, 66, 67, 68, 69, 70]⟩ : ByteArray)[5]'(by decide)).toNat : Int) = 53 := by decide +kernel
        have f2 : wrap64 (((⟨#[48, 49, 50, 51, 52, 53, 54, 55, 56, 57, 97, 98, 99, 100, 101, 102]⟩ : ByteArray)[5]'(by decide)).toNat : Int) = 53 := by decide +kernel
        by_cases e1 : (53 : Int) = r
        · subst e1
          go_wp2
          go_ret
          exact ⟨ret_int (by decide), rfl⟩
        · · go_wp2
            go_round
            case rel => exact ⟨6, 6, rfl, by omega, rfl, miss HP (by unfold hexOf; split <;> (try split) <;> (try split) <;> omega)⟩
            case measure => simp [intOf]
      · obtain rfl : z = 6 := by omega
        clear hz
        have f1 : wrap64 (((⟨#[48, 49, 50, 51, 52, 53, 54, 55, 56, 57, 65, 66, 67, 68, 69, 70]⟩ : ByteArray)[6]'(by decide)).toNat : Int) = 54 := by decide +kernel
        have f2 : wrap64 (((⟨#[48, 49, 50, 51, 52, 53, 54, 55, 56, 57, 97, 98, 99, 100, 101, 102]⟩ : ByteArray)[6]'(by decide)).toNat : Int) = 54 := by decide +kernel
        by_cases e1 : (54 : Int) = r
        · subst e1
          go_wp2
          go_ret
          exact ⟨ret_int (by decide), rfl⟩
        · · go_wp2
            go_round
            case rel => exact ⟨7, 7, rfl, by omega, rfl, miss HP (by unfold hexOf; split <;> (try split) <;> (try split) <;> omega)⟩
            case measure => simp [intOf]
      · obtain rfl : z = 7 := by omega
        clear hz
        have f1 : wrap64 (((⟨#[48, 49, 50, 51, 52, 53, 54, 55, 56, 57, 65, 66, 67, 68, 69, 70]⟩ : ByteArray)[7]'(by decide)).toNat : Int) = 55 := by decide +kernel
        have f2 : wrap64 (((⟨#[48, 49, 50, 51, 52, 53, 54, 55, 56, 57, 97, 98, 99, 100, 101, 102]⟩ : ByteArray)[7]'(by decide)).toNat : Int) = 55 := by decide +kernel
        by_cases e1 : (55 : Int) = r
        · subst e1
          go_wp2
          go_ret
          exact ⟨ret_int (by decide), rfl⟩
        · · go_wp2
            go_round
            case rel => exact ⟨8, 8, rfl, by omega, rfl, miss HP (by unfold hexOf; split <;> (try split) <;> (try split) <;> omega)⟩
            case measure => simp [intOf]
      · obtain rfl : z = 8 := by omega
        clear hz
        have f1 : wrap64 (((⟨#[48, 49, 50, 51, 52, 53, 54, 55, 56, 57, 65, 66, 67, 68, 69, 70]⟩ : ByteArray)[8]'(by decide)).toNat : Int) = 56 := by decide +kernel
        have f2 : wrap64 (((⟨#[48, 49, 50, 51, 52, 53, 54, 55, 56, 57, 97, 98, 99, 100, 101, 102]⟩ : ByteArray)[8]'(by decide)).toNat : Int) = 56 := by decide +kernel
        by_cases e1 : (56 : Int) = r
        · subst e1
          go_wp2
          go_ret
          exact ⟨ret_int (by decide), rfl⟩
        · · go_wp2
            go_round
            case rel => exact ⟨9, 9, rfl, by omega, rfl, miss HP (by unfold hexOf; split <;> (try split) <;> (try split) <;> omega)⟩
            case measure => simp [intOf]
      · obtain rfl : z = 9 := by omega
        clear hz
        have f1 : wrap64 (((⟨#[48, 49, 50, 51, 52, 53, 54, 55, 56, 57, 65, 66, 67, 68, 69, 70]⟩ : ByteArray)[9]'(by decide)).toNat : Int) = 57 := by decide +kernel
        have f2 : wrap64 (((⟨#[48, 49, 50, 51, 52, 53, 54, 55, 56, 57, 97, 98, 99, 100, 101, 102]⟩ : ByteArray)[9]'(by decide)).toNat : Int) = 57 := by decide +kernel
        by_cases e1 : (57 : Int) = r
        · subst e1
          go_wp2
          go_ret
          exact ⟨ret_int (by decide), rfl⟩
        · · go_wp2
            go_round
            case rel => exact ⟨10, 10, rfl, by omega, rfl, miss HP (by unfold hexOf; split <;> (try split) <;> (try split) <;> omega)⟩
            case measure => simp [intOf]
      · obtain rfl : z = 10 := by omega
        clear hz
        have f1 : wrap64 (((⟨#[48, 49, 50, 51, 52, 53, 54, 55, 56, 57, 65, 66, 67, 68, 69, 70]⟩ : ByteArray)[10]'(by decide)).toNat : Int) = 65 := by decide +kernel
        have f2 : wrap64 (((⟨#[48, 49, 50, 51, 52, 53, 54, 55, 56, 57, 97, 98, 99, 100, 101, 102]⟩ : ByteArray)[10]'(by decide)).toNat : Int) = 97 := by decide +kernel
        by_cases e1 : (65 : Int) = r
        · subst e1
          go_wp2
          go_ret
          exact ⟨ret_int (by decide), rfl⟩
        · by_cases e2 : (97 : Int) = r
          · subst e2
            go_wp2
            go_ret
            exact ⟨ret_int (by decide), rfl⟩
          · have g1 : ((65 : Int) == r) = false := by simpa using e1
            have g2 : ((97 : Int) == r) = false := by simpa using e2
            go_wp2
            go_round
            case rel => exact ⟨11, 11, rfl, by omega, rfl, miss HP (by unfold hexOf; split <;> (try split) <;> (try split) <;> omega)⟩
            case measure => simp [intOf]
      · obtain rfl : z = 11 := by omega
        clear hz
        have f1 : wrap64 (((⟨#[48, 49, 50, 51, 52, 53, 54, 55, 56, 57, 65, 66, 67, 68, 69, 70]⟩ : ByteArray)[11]'(by decide)).toNat : Int) = 66 := by decide +kernel
        have f2 : wrap64 (((⟨#[48, 49, 50, 51, 52, 53, 54, 55, 56, 57, 97, 98, 99, 100, 101, 102]⟩ : ByteArray)[11]'(by decide)).toNat : Int) = 98 := by decide +kernel
        by_cases e1 : (66 : Int) = r
        · subst e1
          go_wp2
          go_ret
          exact ⟨ret_int (by decide), rfl⟩
        · by_cases e2 : (98 : Int) = r
          · subst e2
            go_wp2
            go_ret
            exact ⟨ret_int (by decide), rfl⟩
          · have g1 : ((66 : Int) == r) = false := by simpa using e1
            have g2 : ((98 : Int) == r) = false := by simpa using e2
            go_wp2
            go_round
            case rel => exact ⟨12, 12, rfl, by omega, rfl, miss HP (by unfold hexOf; split <;> (try split) <;> (try split) <;> omega)⟩
            case measure => simp [intOf]
      · obtain rfl : z = 12 := by omega
        clear hz
        have f1 : wrap64 (((⟨#[48, 49, 50, 51, 52, 53, 54, 55, 56, 57, 65, 66, 67, 68, 69, 70]⟩ : ByteArray)[12]'(by decide)).toNat : Int) = 67 := by decide +kernel
        have f2 : wrap64 (((⟨#[48, 49, 50, 51, 52, 53, 54, 55, 56, 57, 97, 98, 99, 100, 101, 102]⟩ : ByteArray)[12]'(by decide)).toNat : Int) = 99 := by decide +kernel
        by_cases e1 : (67 : Int) = r
        · subst e1
          go_wp2
          go_ret
          exact ⟨ret_int (by decide), rfl⟩
        · by_cases e2 : (99 : Int) = r
          · subst e2
            go_wp2
            go_ret
            exact ⟨ret_int (by decide), rfl⟩
          · have g1 : ((67 : Int) == r) = false := by simpa using e1
            have g2 : ((99 : Int) == r) = false := by simpa using e2
            go_wp2
            go_round
            case rel => exact ⟨13, 13, rfl, by omega, rfl, miss HP (by unfold hexOf; split <;> (try split) <;> (try split) <;> omega)⟩
            case measure => simp [intOf]
      · obtain rfl : z = 13 := by omega
        clear hz
        have f1 : wrap64 (((⟨#[48, 49, 50, 51, 52, 53, 54, 55, 56, 57, 65, 66, 67, 68, 69, 70]⟩ : ByteArray)[13]'(by decide)).toNat : Int) = 68 := by decide +kernel
        have f2 : wrap64 (((⟨#[48, 49, 50, 51, 52, 53, 54, 55, 56, 57, 97, 98, 99, 100, 101, 102]⟩ : ByteArray)[13]'(by decide)).toNat : Int) = 100 := by decide +kernel
        by_cases e1 : (68 : Int) = r
        · subst e1
          go_wp2
          go_ret
          exact ⟨ret_int (by decide), rfl⟩
        · by_cases e2 : (100 : Int) = r
          · subst e2
            go_wp2
            go_ret
            exact ⟨ret_int (by decide), rfl⟩
          · have g1 : ((68 : Int) == r) = false := by simpa using e1
            have g2 : ((100 : Int) == r) = false := by simpa using e2
            go_wp2
            go_round
            case rel => exact ⟨14, 14, rfl, by omega, rfl, miss HP (by unfold hexOf; split <;> (try split) <;> (try split) <;> omega)⟩
            case measure => simp [intOf]
      · obtain rfl : z = 14 := by omega
        clear hz
        have f1 : wrap64 (((⟨#[48, 49, 50, 51, 52, 53, 54, 55, 56, 57, 65, 66, 67, 68, 69, 70]⟩ : ByteArray)[14]'(by decide)).toNat : Int) = 69 := by decide +kernel
        have f2 : wrap64 (((⟨#[48, 49, 50, 51, 52, 53, 54, 55, 56, 57, 97, 98, 99, 100, 101, 102]⟩ : ByteArray)[14]'(by decide)).toNat : Int) = 101 := by decide +kernel
        by_cases e1 : (69 : Int) = r
        · subst e1
          go_wp2
          go_ret
          exact ⟨ret_int (by decide), rfl⟩
        · by_cases e2 : (101 : Int) = r
          · subst e2
            go_wp2
            go_ret
            exact ⟨ret_int (by decide), rfl⟩
          · have g1 : ((69 : Int) == r) = false := by simpa using e1
            have g2 : ((101 : Int) == r) = false := by simpa using e2
            go_wp2
            go_round
            case rel => exact ⟨15, 15, rfl, by omega, rfl, miss HP (by unfold hexOf; split <;> (try split) <;> (try split) <;> omega)⟩
            case measure => simp [intOf]
      · obtain rfl : z = 15 := by omega
        clear hz
        have f1 : wrap64 (((⟨#[48, 49, 50, 51, 52, 53, 54, 55, 56, 57, 65, 66, 67, 68, 69, 70]⟩ : ByteArray)[15]'(by decide)).toNat : Int) = 70 := by decide +kernel
        have f2 : wrap64 (((⟨#[48, 49, 50, 51, 52, 53, 54, 55, 56, 57, 97, 98, 99, 100, 101, 102]⟩ : ByteArray)[15]'(by decide)).toNat : Int) = 102 := by decide +kernel
        by_cases e1 : (70 : Int) = r
        · subst e1
          go_wp2
          go_ret
          exact ⟨ret_int (by decide), rfl⟩
        · by_cases e2 : (102 : Int) = r
          · subst e2
            go_wp2
            go_ret
            exact ⟨ret_int (by decide), rfl⟩
          · have g1 : ((70 : Int) == r) = false := by simpa using e1
            have g2 : ((102 : Int) == r) = false := by simpa using e2
            go_wp2
            go_round
            case rel => exact ⟨16, 16, rfl, by omega, rfl, miss HP (by unfold hexOf; split <;> (try split) <;> (try split) <;> omega)⟩
            case measure => simp [intOf]
    · obtain rfl : k = 16 := by omega
      obtain rfl : z = 16 := by omega
      have hm := Lib.hid (missed_all HP)
      clear hz hk hlt
      go_wp2
      go_ret
      exact ⟨ret_int (by rw [hm.out]), rfl⟩
end Go.Proofs.Ytpbkdgbmnffooaa
