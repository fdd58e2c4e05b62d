/-
  Layer 11: what the listed variables hold.
-/
import Derived.Test.YtoffjpgobhcipaaDoorKa
import Derived.Lib.LaidTab
import Derived.Stop.LaidErr
import Derived.Deep.DeepHandedRow
import Derived.LaidMore
namespace Go.Proofs.YtoffjpgobhcipaaDoor.Trm
open Go.ChangeShapes Go.WideShapes Go.ChangeAt Go.RowKit

/-- the rows' own list -/
def laidL : List (String × DataW Unit) := [("math/bits.deBruijn32tab", Rows.laid_math_bits_deBruijn32tab), ("math/bits.deBruijn64tab", Rows.laid_math_bits_deBruijn64tab), ("internal/strconv.uint64pow10", Rows.laid_internal_strconv_uint64pow10), ("strconv.ErrRange", Rows.laid_strconv_ErrRange), ("strconv.ErrSyntax", Rows.laid_strconv_ErrSyntax)]
theorem gT : Tryd.prog.globalNamed "internal/strconv.uint64pow10" = some 0 := by kernel_rfl
theorem gTType : (Tryd.prog.globals[0]?).map (·.type) = some 107 := by kernel_rfl
theorem gS : Tryd.prog.globalNamed "strconv.ErrSyntax" = some 1 := by kernel_rfl
theorem gSType : (Tryd.prog.globals[1]?).map (·.type) = some 44 := by kernel_rfl
theorem gR : Tryd.prog.globalNamed "strconv.ErrRange" = some 2 := by kernel_rfl
theorem gRType : (Tryd.prog.globals[2]?).map (·.type) = some 44 := by kernel_rfl
theorem star : "*" ++ "errors.errorString" = "*errors.errorString" := by decide
theorem rowErr (u : TypeId) (h : Tryd.prog.typeName? 3 u = some "*errors.errorString") : u = 122 :=
  typeName_ptr_named (nm := "errors.errorString") (by rw [star]; kernel_rfl) (by kernel_rfl) (by decide) u (by rw [star]; exact h)
theorem laid_facts {W : World} (h : laidMetH Tryd.prog laidL W) : Tab W ∧ Errs W := by
  have h0 : laidMet Tryd.prog laidL W := h
  have h2 := h0.tail.tail
  have h3 := h2.tail
  have h4 := h3.tail
  have hr := laid_sentinel h3 gR gRType Tryd.underlying44 rowErr Tryd.underlying122 Tryd.underlying124 rfl rfl Tryd.underlying9 (by kernel_rfl) (by kernel_rfl)
  have hs := laid_sentinel h4 gS gSType Tryd.underlying44 rowErr Tryd.underlying122 Tryd.underlying124 rfl rfl Tryd.underlying9 (by kernel_rfl) (by kernel_rfl)
  obtain ⟨a, _, hva, _⟩ := hs
  obtain ⟨b, _, hvb, _⟩ := hr
  exact ⟨Lib.tabIs_of_head gT gTType Tryd.underlying107 Tryd.underlying67 (by kernel_rfl) (by kernel_rfl) h2, ⟨_, _, hva⟩, _, _, hvb⟩
end Go.Proofs.YtoffjpgobhcipaaDoor.Trm
