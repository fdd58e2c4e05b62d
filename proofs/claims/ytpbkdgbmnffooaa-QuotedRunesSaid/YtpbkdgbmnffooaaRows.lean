/-
  No cell of these rows narrows 'for every input' (looked for: loops, veiled, ifaces, maps, wideKeys, modest, calm, conditions, laid).
  DERIVED. THE GIVEN ROWS OF THIS SEAT. 7 by the template 'for every input the law returns true; each argument reads behind the call as it read before'; 0 by the template 'total and deterministic' (their statements: YtpbkdgbmnffooaaTotals.lean).
  GIVEN WITH THE SEED: the statements are not yours to turn. If you find one false, say at which input.
  Laid BY PROGRAM, IN A SANDBOX (cutbox-rows.mjs): the forced cells as the released guide's own fill.sh prints them over the translation 744990efca045702… (all of the seat's roots in one cut). By AI agents, Wed Nov 11 2026. No macro, syntax, notation, axiom, sorry.
-/
import Derived.Test.YtpbkdgbmnffooaaChecked
import GoSem.Claim
import GoSem.ClaimJoined
import GoSem.ClaimMapViews
import Derived.JoinedTies
import Derived.KernelRfl
namespace Go.Proofs.Ytpbkdgbmnffooaa
/- THE CELL 'sum', in the pinned program and in every row, IS THE sha256 OF THE DUMP (.gsa) THAT YtpbkdgbmnffooaaProg.lean LOADS. Nothing in Lean hashes anything: it is a label: what it is worth is what the hold of that sum in a sandbox is worth. -/
noncomputable def Try.pinned : Pinned := { name := "ytpbkdgbmnffooaa", sum := "744990efca045702f37c7e6990578b5c504b28efada1279da53daf786a8446ee", checked := Try.checked }
namespace Rows
def none {H : Type} : Left H := { results := [], args := [] }

/-- 'emendlaw06.QuotedScans': WHATEVER THE INPUT: true; the input reads as it did. -/
def quotedScansSpec : ChangeSpec := { name := "quotedScans", fn := fun _ => fun
  | [d1, d2] => { results := [.lit (.bool true)], args := [d1, d2] }
  | _ => none }
def quotedScansRow : OpenClaim := { program := "ytpbkdgbmnffooaa", sum := "744990efca045702f37c7e6990578b5c504b28efada1279da53daf786a8446ee", func := "emend/emendlaw06.QuotedScans", spec := "quotedScans", inPlace := ["internal/bytealg.IndexByteString", "internal/abi.NoEscape"], apart := false }
def QuotedScansSaid : Prop := quotedScansRow.holds Try.pinned (OpenSpec.ofChange quotedScansSpec)

/-- ITS FALSE NEIGHBOUR: 'it returns false'. Refute it at one input. -/
def quotedScansWrong : ChangeSpec := { name := "quotedScans", fn := fun _ => fun
  | [d1, d2] => { results := [.lit (.bool false)], args := [d1, d2] }
  | _ => none }
def QuotedScansWrongFalsely : Prop := quotedScansRow.holds Try.pinned (OpenSpec.ofChange quotedScansWrong)

/-- 'emendlaw06.QuotedValues': WHATEVER THE INPUT: true; the input reads as it did. -/
def quotedValuesSpec : ChangeSpec := { name := "quotedValues", fn := fun _ => fun
  | [d] => { results := [.lit (.bool true)], args := [d] }
  | _ => none }
def quotedValuesRow : OpenClaim := { program := "ytpbkdgbmnffooaa", sum := "744990efca045702f37c7e6990578b5c504b28efada1279da53daf786a8446ee", func := "emend/emendlaw06.QuotedValues", spec := "quotedValues", inPlace := ["internal/bytealg.IndexByteString", "internal/abi.NoEscape"], apart := false }
def QuotedValuesSaid : Prop := quotedValuesRow.holds Try.pinned (OpenSpec.ofChange quotedValuesSpec)

/-- ITS FALSE NEIGHBOUR: 'it returns false'. Refute it at one input. -/
def quotedValuesWrong : ChangeSpec := { name := "quotedValues", fn := fun _ => fun
  | [d] => { results := [.lit (.bool false)], args := [d] }
  | _ => none }
def QuotedValuesWrongFalsely : Prop := quotedValuesRow.holds Try.pinned (OpenSpec.ofChange quotedValuesWrong)

/-- 'emendlaw06.QuotedQuotes': WHATEVER THE INPUT: true; the input reads as it did. -/
def quotedQuotesSpec : ChangeSpec := { name := "quotedQuotes", fn := fun _ => fun
  | [d] => { results := [.lit (.bool true)], args := [d] }
  | _ => none }
def quotedQuotesRow : OpenClaim := { program := "ytpbkdgbmnffooaa", sum := "744990efca045702f37c7e6990578b5c504b28efada1279da53daf786a8446ee", func := "emend/emendlaw06.QuotedQuotes", spec := "quotedQuotes", inPlace := ["internal/abi.NoEscape", "internal/bytealg.IndexByteString"], apart := false }
def QuotedQuotesSaid : Prop := quotedQuotesRow.holds Try.pinned (OpenSpec.ofChange quotedQuotesSpec)

/-- ITS FALSE NEIGHBOUR: 'it returns false'. Refute it at one input. -/
def quotedQuotesWrong : ChangeSpec := { name := "quotedQuotes", fn := fun _ => fun
  | [d] => { results := [.lit (.bool false)], args := [d] }
  | _ => none }
def QuotedQuotesWrongFalsely : Prop := quotedQuotesRow.holds Try.pinned (OpenSpec.ofChange quotedQuotesWrong)

/-- 'emendlaw06.QuotedJoins': WHATEVER THE INPUT: true; the input reads as it did. -/
def quotedJoinsSpec : ChangeSpec := { name := "quotedJoins", fn := fun _ => fun
  | [d1, d2] => { results := [.lit (.bool true)], args := [d1, d2] }
  | _ => none }
def quotedJoinsRow : OpenClaim := { program := "ytpbkdgbmnffooaa", sum := "744990efca045702f37c7e6990578b5c504b28efada1279da53daf786a8446ee", func := "emend/emendlaw06.QuotedJoins", spec := "quotedJoins", inPlace := ["internal/bytealg.IndexByteString", "internal/abi.NoEscape"], apart := false }
def QuotedJoinsSaid : Prop := quotedJoinsRow.holds Try.pinned (OpenSpec.ofChange quotedJoinsSpec)

/-- ITS FALSE NEIGHBOUR: 'it returns false'. Refute it at one input. -/
def quotedJoinsWrong : ChangeSpec := { name := "quotedJoins", fn := fun _ => fun
  | [d1, d2] => { results := [.lit (.bool false)], args := [d1, d2] }
  | _ => none }
def QuotedJoinsWrongFalsely : Prop := quotedJoinsRow.holds Try.pinned (OpenSpec.ofChange quotedJoinsWrong)

/-- 'emendlaw06.QuotedRaw': WHATEVER THE INPUT: true; the input reads as it did. -/
def quotedRawSpec : ChangeSpec := { name := "quotedRaw", fn := fun _ => fun
  | [d] => { results := [.lit (.bool true)], args := [d] }
  | _ => none }
def quotedRawRow : OpenClaim := { program := "ytpbkdgbmnffooaa", sum := "744990efca045702f37c7e6990578b5c504b28efada1279da53daf786a8446ee", func := "emend/emendlaw06.QuotedRaw", spec := "quotedRaw", inPlace := ["internal/bytealg.IndexByteString", "internal/abi.NoEscape"], apart := false }
def QuotedRawSaid : Prop := quotedRawRow.holds Try.pinned (OpenSpec.ofChange quotedRawSpec)

/-- ITS FALSE NEIGHBOUR: 'it returns false'. Refute it at one input. -/
def quotedRawWrong : ChangeSpec := { name := "quotedRaw", fn := fun _ => fun
  | [d] => { results := [.lit (.bool false)], args := [d] }
  | _ => none }
def QuotedRawWrongFalsely : Prop := quotedRawRow.holds Try.pinned (OpenSpec.ofChange quotedRawWrong)

/-- 'emendlaw06.QuotedRunes': WHATEVER THE INPUT: true; the input reads as it did. -/
def quotedRunesSpec : ChangeSpec := { name := "quotedRunes", fn := fun _ => fun
  | [d] => { results := [.lit (.bool true)], args := [d] }
  | _ => none }
def quotedRunesRow : OpenClaim := { program := "ytpbkdgbmnffooaa", sum := "744990efca045702f37c7e6990578b5c504b28efada1279da53daf786a8446ee", func := "emend/emendlaw06.QuotedRunes", spec := "quotedRunes", inPlace := ["internal/bytealg.IndexByteString", "internal/abi.NoEscape"], apart := false }
def QuotedRunesSaid : Prop := quotedRunesRow.holds Try.pinned (OpenSpec.ofChange quotedRunesSpec)

/-- ITS FALSE NEIGHBOUR: 'it returns false'. Refute it at one input. -/
def quotedRunesWrong : ChangeSpec := { name := "quotedRunes", fn := fun _ => fun
  | [d] => { results := [.lit (.bool false)], args := [d] }
  | _ => none }
def QuotedRunesWrongFalsely : Prop := quotedRunesRow.holds Try.pinned (OpenSpec.ofChange quotedRunesWrong)

/-- 'emendlaw06.QuotedFound': WHATEVER THE INPUT: true; the input reads as it did. -/
def quotedFoundSpec : ChangeSpec := { name := "quotedFound", fn := fun _ => fun
  | [d1, d2] => { results := [.lit (.bool true)], args := [d1, d2] }
  | _ => none }
def quotedFoundRow : OpenClaim := { program := "ytpbkdgbmnffooaa", sum := "744990efca045702f37c7e6990578b5c504b28efada1279da53daf786a8446ee", func := "emend/emendlaw06.QuotedFound", spec := "quotedFound", inPlace := ["internal/bytealg.IndexByteString", "internal/abi.NoEscape"], apart := false }
def QuotedFoundSaid : Prop := quotedFoundRow.holds Try.pinned (OpenSpec.ofChange quotedFoundSpec)

/-- ITS FALSE NEIGHBOUR: 'it returns false'. Refute it at one input. -/
def quotedFoundWrong : ChangeSpec := { name := "quotedFound", fn := fun _ => fun
  | [d1, d2] => { results := [.lit (.bool false)], args := [d1, d2] }
  | _ => none }
def QuotedFoundWrongFalsely : Prop := quotedFoundRow.holds Try.pinned (OpenSpec.ofChange quotedFoundWrong)

/- THE SECOND FORM. 'bulk': how many values and letters a reading holds, each counted each time it is reached (what is shared counts as often as it is met; a slice's spare places count too). A statement '..UptoSaid' is the law's where the arguments, and the package variables that the reading takes, are together of bulk at most 1048576: NARROWER than '..Said'. Prove '..Said' where nothing that the law and all that it calls make is longer than what came in: it says more and counts as full. Else prove '..UptoSaid'. A law counts once. -/
mutual
def uptoBulk {H : Type} : DataW H → Nat
  | .lit (.string bytes) => bytes.length + 1
  | .lit _ => 1
  | .nil => 1
  | .ptr d => uptoBulk d + 1
  | .slice elems spare => uptoBulkAll elems + uptoBulkAll spare + 1
  | .agg parts => uptoBulkAll parts + 1
  | .iface _ d => uptoBulk d + 1
  | .map entries => uptoBulkEntries entries + 1
  | .held _ => 1
def uptoBulkAll {H : Type} : List (DataW H) → Nat
  | [] => 0
  | d :: r => uptoBulk d + uptoBulkAll r
def uptoBulkEntries {H : Type} : List (Lit × DataW H) → Nat
  | [] => 0
  | x :: r => uptoBulkEntry x + uptoBulkEntries r
def uptoBulkEntry {H : Type} : Lit × DataW H → Nat
  | (.string bytes, d) => bytes.length + uptoBulk d + 1
  | (_, d) => uptoBulk d + 1
 end
def uptoSmall : (H : Type) → List (DataW H) → Bool := fun _ ds => decide (uptoBulkAll ds ≤ 1048576)
def OpenSpec.upto (s : _root_.Go.ChangeSpec) : _root_.Go.OpenSpec := { _root_.Go.OpenSpec.ofChange s with cond := some uptoSmall }

/-- 'emendlaw06.QuotedScans', WHERE WHAT IT READS IS OF BULK AT MOST 1048576: true; the input reads as it did. -/
def quotedScansUptoRow : OpenClaim := { program := "ytpbkdgbmnffooaa", sum := "744990efca045702f37c7e6990578b5c504b28efada1279da53daf786a8446ee", func := "emend/emendlaw06.QuotedScans", spec := "quotedScans", inPlace := ["internal/bytealg.IndexByteString", "internal/abi.NoEscape"], apart := false, narrowed := true }
def QuotedScansUptoSaid : Prop := quotedScansUptoRow.holds Try.pinned (OpenSpec.upto quotedScansSpec)

/-- 'emendlaw06.QuotedValues', WHERE WHAT IT READS IS OF BULK AT MOST 1048576: true; the input reads as it did. -/
def quotedValuesUptoRow : OpenClaim := { program := "ytpbkdgbmnffooaa", sum := "744990efca045702f37c7e6990578b5c504b28efada1279da53daf786a8446ee", func := "emend/emendlaw06.QuotedValues", spec := "quotedValues", inPlace := ["internal/bytealg.IndexByteString", "internal/abi.NoEscape"], apart := false, narrowed := true }
def QuotedValuesUptoSaid : Prop := quotedValuesUptoRow.holds Try.pinned (OpenSpec.upto quotedValuesSpec)

/-- 'emendlaw06.QuotedQuotes', WHERE WHAT IT READS IS OF BULK AT MOST 1048576: true; the input reads as it did. -/
def quotedQuotesUptoRow : OpenClaim := { program := "ytpbkdgbmnffooaa", sum := "744990efca045702f37c7e6990578b5c504b28efada1279da53daf786a8446ee", func := "emend/emendlaw06.QuotedQuotes", spec := "quotedQuotes", inPlace := ["internal/abi.NoEscape", "internal/bytealg.IndexByteString"], apart := false, narrowed := true }
def QuotedQuotesUptoSaid : Prop := quotedQuotesUptoRow.holds Try.pinned (OpenSpec.upto quotedQuotesSpec)

/-- 'emendlaw06.QuotedJoins', WHERE WHAT IT READS IS OF BULK AT MOST 1048576: true; the input reads as it did. -/
def quotedJoinsUptoRow : OpenClaim := { program := "ytpbkdgbmnffooaa", sum := "744990efca045702f37c7e6990578b5c504b28efada1279da53daf786a8446ee", func := "emend/emendlaw06.QuotedJoins", spec := "quotedJoins", inPlace := ["internal/bytealg.IndexByteString", "internal/abi.NoEscape"], apart := false, narrowed := true }
def QuotedJoinsUptoSaid : Prop := quotedJoinsUptoRow.holds Try.pinned (OpenSpec.upto quotedJoinsSpec)

/-- 'emendlaw06.QuotedRaw', WHERE WHAT IT READS IS OF BULK AT MOST 1048576: true; the input reads as it did. -/
def quotedRawUptoRow : OpenClaim := { program := "ytpbkdgbmnffooaa", sum := "744990efca045702f37c7e6990578b5c504b28efada1279da53daf786a8446ee", func := "emend/emendlaw06.QuotedRaw", spec := "quotedRaw", inPlace := ["internal/bytealg.IndexByteString", "internal/abi.NoEscape"], apart := false, narrowed := true }
def QuotedRawUptoSaid : Prop := quotedRawUptoRow.holds Try.pinned (OpenSpec.upto quotedRawSpec)

/-- 'emendlaw06.QuotedRunes', WHERE WHAT IT READS IS OF BULK AT MOST 1048576: true; the input reads as it did. -/
def quotedRunesUptoRow : OpenClaim := { program := "ytpbkdgbmnffooaa", sum := "744990efca045702f37c7e6990578b5c504b28efada1279da53daf786a8446ee", func := "emend/emendlaw06.QuotedRunes", spec := "quotedRunes", inPlace := ["internal/bytealg.IndexByteString", "internal/abi.NoEscape"], apart := false, narrowed := true }
def QuotedRunesUptoSaid : Prop := quotedRunesUptoRow.holds Try.pinned (OpenSpec.upto quotedRunesSpec)

/-- 'emendlaw06.QuotedFound', WHERE WHAT IT READS IS OF BULK AT MOST 1048576: true; the input reads as it did. -/
def quotedFoundUptoRow : OpenClaim := { program := "ytpbkdgbmnffooaa", sum := "744990efca045702f37c7e6990578b5c504b28efada1279da53daf786a8446ee", func := "emend/emendlaw06.QuotedFound", spec := "quotedFound", inPlace := ["internal/bytealg.IndexByteString", "internal/abi.NoEscape"], apart := false, narrowed := true }
def QuotedFoundUptoSaid : Prop := quotedFoundUptoRow.holds Try.pinned (OpenSpec.upto quotedFoundSpec)

end Rows
end Go.Proofs.Ytpbkdgbmnffooaa
