/-
  Contracts of class.Base, class.Word and of the document's Base, Words and Word.
-/
import Derived.Test.YtpbkdgbmnffooaaRb
import Derived.Great.BuildSlice
import Derived.Outline
namespace Go.Proofs.Ytpbkdgbmnffooaa
open Go.ChangeShapes Go.WideShapes Go.ChangeAt Go.RowKit

/-- what a digit of base 16 says; -1 -/
def hexOf (r : Int) : Int := if 48 ≤ r ∧ r ≤ 57 then r - 48 else if 65 ≤ r ∧ r ≤ 70 then r - 55 else if 97 ≤ r ∧ r ≤ 102 then r - 87 else -1
theorem base_any (r : Int) (w : World) :
    Calls Try.prog 44 #[.int .i32 r] w fun e w' => e = .returned (.int .i64 (hexOf r)) ∧ w = w' := by
  by_cases h1 : 48 ≤ r ∧ r ≤ 57
  · obtain ⟨a, b⟩ := h1
    go_enter Try.func44, Try.ntmps44
    go_wp2
    go_ret
    exact ⟨ret_int (by unfold hexOf; rw [if_pos ⟨a, b⟩]), rfl⟩
  · by_cases h2 : 65 ≤ r ∧ r ≤ 70
    · obtain ⟨a, b⟩ := h2
      go_enter Try.func44, Try.ntmps44
      go_wp2
      go_ret
      exact ⟨ret_int (by unfold hexOf; rw [if_neg (by omega), if_pos ⟨a, b⟩]; omega), rfl⟩
    · by_cases h3 : 97 ≤ r ∧ r ≤ 102
      · obtain ⟨a, b⟩ := h3
        go_enter Try.func44, Try.ntmps44
        go_wp2
        go_ret
        exact ⟨ret_int (by unfold hexOf; rw [if_neg (by omega), if_neg (by omega), if_pos ⟨a, b⟩]; omega), rfl⟩
      · go_enter Try.func44, Try.ntmps44
        go_wp2
        all_goals
          go_ret
          exact ⟨ret_int (by unfold hexOf; rw [if_neg (by omega), if_neg (by omega), if_neg (by omega)]), rfl⟩
end Go.Proofs.Ytpbkdgbmnffooaa
