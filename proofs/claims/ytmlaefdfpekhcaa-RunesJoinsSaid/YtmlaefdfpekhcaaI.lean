/-
  Contracts of class.Base, class.Word and of the document's Base, Words and Word.
-/
import Derived.Test.YtmlaefdfpekhcaaB
import Derived.Great.BuildSlice
import Derived.Outline
namespace Go.Proofs.Ytmlaefdfpekhcaa
open Go.ChangeShapes Go.WideShapes Go.ChangeAt Go.RowKit

/-- what a digit of base 16 says; -1 -/
def hexOf (r : Int) : Int := if 48 ≤ r ∧ r ≤ 57 then r - 48 else if 65 ≤ r ∧ r ≤ 70 then r - 55 else if 97 ≤ r ∧ r ≤ 102 then r - 87 else -1
theorem base_any (r : Int) (w : World) :
    Calls Try.prog 34 #[.int .i32 r] w fun e w' => e = .returned (.int .i64 (hexOf r)) ∧ w = w' := by
  by_cases h1 : 48 ≤ r ∧ r ≤ 57
  · obtain ⟨a, b⟩ := h1
    go_enter Try.func34, Try.ntmps34
    go_wp2
    go_ret
    exact ⟨ret_int (by unfold hexOf; rw [if_pos ⟨a, b⟩]), rfl⟩
  · by_cases h2 : 65 ≤ r ∧ r ≤ 70
    · obtain ⟨a, b⟩ := h2
      go_enter Try.func34, Try.ntmps34
      go_wp2
      go_ret
      exact ⟨ret_int (by unfold hexOf; rw [if_neg (by omega), if_pos ⟨a, b⟩]; omega), rfl⟩
    · by_cases h3 : 97 ≤ r ∧ r ≤ 102
      · obtain ⟨a, b⟩ := h3
        go_enter Try.func34, Try.ntmps34
        go_wp2
        go_ret
        exact ⟨ret_int (by unfold hexOf; rw [if_neg (by omega), if_neg (by omega), if_pos ⟨a, b⟩]; omega), rfl⟩
      · go_enter Try.func34, Try.ntmps34
        go_wp2
        all_goals
          go_ret
          exact ⟨ret_int (by unfold hexOf; rw [if_neg (by omega), if_neg (by omega), if_neg (by omega)]), rfl⟩
/-- the language's words -/
def words : List (List UInt8) :=
  [
    [98, 114, 101, 97, 107],
    [99, 97, 115, 101],
    [99, 104, 97, 110],
    [99, 111, 110, 115, 116],
    [99, 111, 110, 116, 105, 110, 117, 101],
    [100, 101, 102, 97, 117, 108, 116],
    [100, 101, 102, 101, 114],
    [101, 108, 115, 101],
    [102, 97, 108, 108, 116, 104, 114, 111, 117, 103, 104],
    [102, 111, 114],
    [102, 117, 110, 99],
    [103, 111],
    [103, 111, 116, 111],
    [105, 102],
    [105, 109, 112, 111, 114, 116],
    [105, 110, 116, 101, 114, 102, 97, 99, 101],
    [109, 97, 112],
    [112, 97, 99, 107, 97, 103, 101],
    [114, 97, 110, 103, 101],
    [114, 101, 116, 117, 114, 110],
    [115, 101, 108, 101, 99, 116],
    [115, 116, 114, 117, 99, 116],
    [115, 119, 105, 116, 99, 104],
    [116, 121, 112, 101],
    [118, 97, 114]]
def isWord (l : List UInt8) : Bool := words.contains l
theorem word_any (s : ByteArray) (w : World) :
    Calls Try.prog 38 #[.string s] w fun e w' => e = .returned (.bool (isWord s.data.toList)) ∧ w = w' := by
  go_enter Try.func38, Try.ntmps38
  go_wp2
  all_goals
    go_ret
    refine ⟨ret_bool ?_, rfl⟩
    rw [← ByteArray.toList_eq]
    unfold isWord words
    simp only [List.contains_cons, List.contains_nil, *]
    first | rfl | simp_all
end Go.Proofs.Ytmlaefdfpekhcaa
