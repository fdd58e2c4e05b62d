/-
  What the bound on the arguments' bulk gives for two texts together.
-/
import Derived.Test.YtmlaefdfpekhcaaV
namespace Go.Proofs.Ytmlaefdfpekhcaa
theorem upto_two {H : Type} {s t : ByteArray} (hk : Rows.uptoSmall H [.lit (.string s.data.toList), .lit (.string t.data.toList)] = true) : s.size + t.size ≤ 1048576 := by
  have h1 : Rows.uptoBulkAll [DataW.lit (H := H) (.string s.data.toList), .lit (.string t.data.toList)] ≤ 1048576 := of_decide_eq_true hk
  simp only [Rows.uptoBulkAll, Rows.uptoBulk] at h1
  have h4 : s.data.toList.length = s.size := by rw [Array.length_toList]; rfl
  have h5 : t.data.toList.length = t.size := by rw [Array.length_toList]; rfl
  omega
end Go.Proofs.Ytmlaefdfpekhcaa
