/-
  No cell of these rows narrows 'for every input' (looked for: loops, veiled, ifaces, maps, wideKeys, modest, calm, conditions, laid).
  DERIVED. THE GIVEN ROWS OF THIS SEAT. 6 by the template 'for every input the law returns true; each argument reads behind the call as it read before'; 0 by the template 'total and deterministic' (their statements: YtakbhbhikknhkaaTotals.lean).
  GIVEN WITH THE SEED: the statements are not yours to turn. If you find one false, say at which input.
  Laid BY PROGRAM, IN A SANDBOX (cutbox-rows.mjs): the forced cells as the released guide's own fill.sh prints them over the translation d0d998ab605ddeaa… (all of the seat's roots in one cut). By AI agents, Wed Nov 11 2026. No macro, syntax, notation, axiom, sorry.
-/
import Derived.Test.YtakbhbhikknhkaaChecked
import GoSem.Claim
import GoSem.ClaimJoined
import GoSem.ClaimMapViews
import Derived.JoinedTies
import Derived.KernelRfl
namespace Go.Proofs.Ytakbhbhikknhkaa
/- THE CELL 'sum', in the pinned program and in every row, IS THE sha256 OF THE DUMP (.gsa) THAT YtakbhbhikknhkaaProg.lean LOADS. Nothing in Lean hashes anything: it is a label: what it is worth is what the hold of that sum in a sandbox is worth. -/
noncomputable def Try.pinned : Pinned := { name := "ytakbhbhikknhkaa", sum := "d0d998ab605ddeaa153c17ee2293a0d97eb6b895266f7c1cc17aa5b106862d2d", checked := Try.checked }
namespace Rows
def none {H : Type} : Left H := { results := [], args := [] }

/-- 'emendlaw05.NumberKinds': WHATEVER THE INPUT: true; the input reads as it did. -/
def numberKindsSpec : ChangeSpec := { name := "numberKinds", fn := fun _ => fun
  | [d] => { results := [.lit (.bool true)], args := [d] }
  | _ => none }
def numberKindsRow : OpenClaim := { program := "ytakbhbhikknhkaa", sum := "d0d998ab605ddeaa153c17ee2293a0d97eb6b895266f7c1cc17aa5b106862d2d", func := "emend/emendlaw05.NumberKinds", spec := "numberKinds", inPlace := ["internal/bytealg.IndexByteString"], unfollowed := true, recurses := true, apart := false }
def NumberKindsSaid : Prop := numberKindsRow.holds Try.pinned (OpenSpec.ofChange numberKindsSpec)

/-- ITS FALSE NEIGHBOUR: 'it returns false'. Refute it at one input. -/
def numberKindsWrong : ChangeSpec := { name := "numberKinds", fn := fun _ => fun
  | [d] => { results := [.lit (.bool false)], args := [d] }
  | _ => none }
def NumberKindsWrongFalsely : Prop := numberKindsRow.holds Try.pinned (OpenSpec.ofChange numberKindsWrong)

/-- 'emendlaw05.NumberScans': WHATEVER THE INPUT: true; the input reads as it did. -/
def numberScansSpec : ChangeSpec := { name := "numberScans", fn := fun _ => fun
  | [d1, d2] => { results := [.lit (.bool true)], args := [d1, d2] }
  | _ => none }
def numberScansRow : OpenClaim := { program := "ytakbhbhikknhkaa", sum := "d0d998ab605ddeaa153c17ee2293a0d97eb6b895266f7c1cc17aa5b106862d2d", func := "emend/emendlaw05.NumberScans", spec := "numberScans", inPlace := ["internal/bytealg.IndexByteString"], unfollowed := true, recurses := true, apart := false }
def NumberScansSaid : Prop := numberScansRow.holds Try.pinned (OpenSpec.ofChange numberScansSpec)

/-- ITS FALSE NEIGHBOUR: 'it returns false'. Refute it at one input. -/
def numberScansWrong : ChangeSpec := { name := "numberScans", fn := fun _ => fun
  | [d1, d2] => { results := [.lit (.bool false)], args := [d1, d2] }
  | _ => none }
def NumberScansWrongFalsely : Prop := numberScansRow.holds Try.pinned (OpenSpec.ofChange numberScansWrong)

/-- 'emendlaw05.NumberUnder': WHATEVER THE INPUT: true; the input reads as it did. -/
def numberUnderSpec : ChangeSpec := { name := "numberUnder", fn := fun _ => fun
  | [d] => { results := [.lit (.bool true)], args := [d] }
  | _ => none }
def numberUnderRow : OpenClaim := { program := "ytakbhbhikknhkaa", sum := "d0d998ab605ddeaa153c17ee2293a0d97eb6b895266f7c1cc17aa5b106862d2d", func := "emend/emendlaw05.NumberUnder", spec := "numberUnder", inPlace := ["internal/bytealg.IndexByteString"], unfollowed := true, recurses := true, apart := false }
def NumberUnderSaid : Prop := numberUnderRow.holds Try.pinned (OpenSpec.ofChange numberUnderSpec)

/-- ITS FALSE NEIGHBOUR: 'it returns false'. Refute it at one input. -/
def numberUnderWrong : ChangeSpec := { name := "numberUnder", fn := fun _ => fun
  | [d] => { results := [.lit (.bool false)], args := [d] }
  | _ => none }
def NumberUnderWrongFalsely : Prop := numberUnderRow.holds Try.pinned (OpenSpec.ofChange numberUnderWrong)

/-- 'emendlaw05.NumberImag': WHATEVER THE INPUT: true; the input reads as it did. -/
def numberImagSpec : ChangeSpec := { name := "numberImag", fn := fun _ => fun
  | [d] => { results := [.lit (.bool true)], args := [d] }
  | _ => none }
def numberImagRow : OpenClaim := { program := "ytakbhbhikknhkaa", sum := "d0d998ab605ddeaa153c17ee2293a0d97eb6b895266f7c1cc17aa5b106862d2d", func := "emend/emendlaw05.NumberImag", spec := "numberImag", inPlace := ["internal/bytealg.IndexByteString"], unfollowed := true, recurses := true, apart := false }
def NumberImagSaid : Prop := numberImagRow.holds Try.pinned (OpenSpec.ofChange numberImagSpec)

/-- ITS FALSE NEIGHBOUR: 'it returns false'. Refute it at one input. -/
def numberImagWrong : ChangeSpec := { name := "numberImag", fn := fun _ => fun
  | [d] => { results := [.lit (.bool false)], args := [d] }
  | _ => none }
def NumberImagWrongFalsely : Prop := numberImagRow.holds Try.pinned (OpenSpec.ofChange numberImagWrong)

/-- 'emendlaw05.NumberWhole': WHATEVER THE INPUT: true; the input reads as it did. -/
def numberWholeSpec : ChangeSpec := { name := "numberWhole", fn := fun _ => fun
  | [d1, d2, d3] => { results := [.lit (.bool true)], args := [d1, d2, d3] }
  | _ => none }
def numberWholeRow : OpenClaim := { program := "ytakbhbhikknhkaa", sum := "d0d998ab605ddeaa153c17ee2293a0d97eb6b895266f7c1cc17aa5b106862d2d", func := "emend/emendlaw05.NumberWhole", spec := "numberWhole", inPlace := ["internal/bytealg.IndexByteString"], unfollowed := true, recurses := true, apart := false }
def NumberWholeSaid : Prop := numberWholeRow.holds Try.pinned (OpenSpec.ofChange numberWholeSpec)

/-- ITS FALSE NEIGHBOUR: 'it returns false'. Refute it at one input. -/
def numberWholeWrong : ChangeSpec := { name := "numberWhole", fn := fun _ => fun
  | [d1, d2, d3] => { results := [.lit (.bool false)], args := [d1, d2, d3] }
  | _ => none }
def NumberWholeWrongFalsely : Prop := numberWholeRow.holds Try.pinned (OpenSpec.ofChange numberWholeWrong)

/-- 'emendlaw05.NumberSigns': WHATEVER THE INPUT: true; the input reads as it did. -/
def numberSignsSpec : ChangeSpec := { name := "numberSigns", fn := fun _ => fun
  | [d] => { results := [.lit (.bool true)], args := [d] }
  | _ => none }
def numberSignsRow : OpenClaim := { program := "ytakbhbhikknhkaa", sum := "d0d998ab605ddeaa153c17ee2293a0d97eb6b895266f7c1cc17aa5b106862d2d", func := "emend/emendlaw05.NumberSigns", spec := "numberSigns", inPlace := ["internal/bytealg.IndexByteString"], unfollowed := true, recurses := true, apart := false }
def NumberSignsSaid : Prop := numberSignsRow.holds Try.pinned (OpenSpec.ofChange numberSignsSpec)

/-- ITS FALSE NEIGHBOUR: 'it returns false'. Refute it at one input. -/
def numberSignsWrong : ChangeSpec := { name := "numberSigns", fn := fun _ => fun
  | [d] => { results := [.lit (.bool false)], args := [d] }
  | _ => none }
def NumberSignsWrongFalsely : Prop := numberSignsRow.holds Try.pinned (OpenSpec.ofChange numberSignsWrong)

/- THE SECOND FORM. 'bulk': how many values and letters a reading holds, each counted each time it is reached (what is shared counts as often as it is met; a slice's spare places count too). A statement '..UptoSaid' is the law's where the arguments, and the package variables that the reading takes, are together of bulk at most 1048576: NARROWER than '..Said'. Prove '..Said' where nothing that the law and all that it calls make is longer than what came in: it says more and counts as full. Else prove '..UptoSaid'. A law counts once. -/
mutual
def uptoBulk {H : Type} : DataW H → Nat
  | .lit (.string bytes) => bytes.length + 1
  | .lit _ => 1
  | .nil => 1
  | .ptr d => uptoBulk d + 1
  | .slice elems spare => uptoBulkAll elems + uptoBulkAll spare + 1
  | .agg parts => uptoBulkAll parts + 1
  | .iface _ d => uptoBulk d + 1
  | .map entries => uptoBulkEntries entries + 1
  | .held _ => 1
def uptoBulkAll {H : Type} : List (DataW H) → Nat
  | [] => 0
  | d :: r => uptoBulk d + uptoBulkAll r
def uptoBulkEntries {H : Type} : List (Lit × DataW H) → Nat
  | [] => 0
  | x :: r => uptoBulkEntry x + uptoBulkEntries r
def uptoBulkEntry {H : Type} : Lit × DataW H → Nat
  | (.string bytes, d) => bytes.length + uptoBulk d + 1
  | (_, d) => uptoBulk d + 1
 end
def uptoSmall : (H : Type) → List (DataW H) → Bool := fun _ ds => decide (uptoBulkAll ds ≤ 1048576)
def OpenSpec.upto (s : _root_.Go.ChangeSpec) : _root_.Go.OpenSpec := { _root_.Go.OpenSpec.ofChange s with cond := some uptoSmall }

/-- 'emendlaw05.NumberKinds', WHERE WHAT IT READS IS OF BULK AT MOST 1048576: true; the input reads as it did. -/
def numberKindsUptoRow : OpenClaim := { program := "ytakbhbhikknhkaa", sum := "d0d998ab605ddeaa153c17ee2293a0d97eb6b895266f7c1cc17aa5b106862d2d", func := "emend/emendlaw05.NumberKinds", spec := "numberKinds", inPlace := ["internal/bytealg.IndexByteString"], unfollowed := true, recurses := true, apart := false, narrowed := true }
def NumberKindsUptoSaid : Prop := numberKindsUptoRow.holds Try.pinned (OpenSpec.upto numberKindsSpec)

/-- 'emendlaw05.NumberScans', WHERE WHAT IT READS IS OF BULK AT MOST 1048576: true; the input reads as it did. -/
def numberScansUptoRow : OpenClaim := { program := "ytakbhbhikknhkaa", sum := "d0d998ab605ddeaa153c17ee2293a0d97eb6b895266f7c1cc17aa5b106862d2d", func := "emend/emendlaw05.NumberScans", spec := "numberScans", inPlace := ["internal/bytealg.IndexByteString"], unfollowed := true, recurses := true, apart := false, narrowed := true }
def NumberScansUptoSaid : Prop := numberScansUptoRow.holds Try.pinned (OpenSpec.upto numberScansSpec)

/-- 'emendlaw05.NumberUnder', WHERE WHAT IT READS IS OF BULK AT MOST 1048576: true; the input reads as it did. -/
def numberUnderUptoRow : OpenClaim := { program := "ytakbhbhikknhkaa", sum := "d0d998ab605ddeaa153c17ee2293a0d97eb6b895266f7c1cc17aa5b106862d2d", func := "emend/emendlaw05.NumberUnder", spec := "numberUnder", inPlace := ["internal/bytealg.IndexByteString"], unfollowed := true, recurses := true, apart := false, narrowed := true }
def NumberUnderUptoSaid : Prop := numberUnderUptoRow.holds Try.pinned (OpenSpec.upto numberUnderSpec)

/-- 'emendlaw05.NumberImag', WHERE WHAT IT READS IS OF BULK AT MOST 1048576: true; the input reads as it did. -/
def numberImagUptoRow : OpenClaim := { program := "ytakbhbhikknhkaa", sum := "d0d998ab605ddeaa153c17ee2293a0d97eb6b895266f7c1cc17aa5b106862d2d", func := "emend/emendlaw05.NumberImag", spec := "numberImag", inPlace := ["internal/bytealg.IndexByteString"], unfollowed := true, recurses := true, apart := false, narrowed := true }
def NumberImagUptoSaid : Prop := numberImagUptoRow.holds Try.pinned (OpenSpec.upto numberImagSpec)

/-- 'emendlaw05.NumberWhole', WHERE WHAT IT READS IS OF BULK AT MOST 1048576: true; the input reads as it did. -/
def numberWholeUptoRow : OpenClaim := { program := "ytakbhbhikknhkaa", sum := "d0d998ab605ddeaa153c17ee2293a0d97eb6b895266f7c1cc17aa5b106862d2d", func := "emend/emendlaw05.NumberWhole", spec := "numberWhole", inPlace := ["internal/bytealg.IndexByteString"], unfollowed := true, recurses := true, apart := false, narrowed := true }
def NumberWholeUptoSaid : Prop := numberWholeUptoRow.holds Try.pinned (OpenSpec.upto numberWholeSpec)

/-- 'emendlaw05.NumberSigns', WHERE WHAT IT READS IS OF BULK AT MOST 1048576: true; the input reads as it did. -/
def numberSignsUptoRow : OpenClaim := { program := "ytakbhbhikknhkaa", sum := "d0d998ab605ddeaa153c17ee2293a0d97eb6b895266f7c1cc17aa5b106862d2d", func := "emend/emendlaw05.NumberSigns", spec := "numberSigns", inPlace := ["internal/bytealg.IndexByteString"], unfollowed := true, recurses := true, apart := false, narrowed := true }
def NumberSignsUptoSaid : Prop := numberSignsUptoRow.holds Try.pinned (OpenSpec.upto numberSignsSpec)

end Rows
end Go.Proofs.Ytakbhbhikknhkaa
