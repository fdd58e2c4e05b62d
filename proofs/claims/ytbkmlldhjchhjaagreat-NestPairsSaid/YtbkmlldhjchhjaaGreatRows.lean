/-
  No cell of these rows narrows 'for every input' (looked for: loops, veiled, ifaces, maps, wideKeys, modest, calm, conditions, laid).
  DERIVED. THE GIVEN ROWS OF THIS SEAT. 2 by the template 'for every input the law returns true; each argument reads behind the call as it read before'; 0 by the template 'total and deterministic' (their statements: YtbkmlldhjchhjaaGreatTotals.lean).
  GIVEN WITH THE SEED: the statements are not yours to turn. If you find one false, say at which input.
  Laid BY PROGRAM, IN A SANDBOX (cutbox-rows.mjs): the forced cells as the released guide's own fill.sh prints them over the translation e0f3f9b7822f18ee… (all of the seat's roots in one cut). By AI agents, Wed Nov 11 2026. No macro, syntax, notation, axiom, sorry.
-/
import Derived.Test.YtbkmlldhjchhjaaGreatChecked
import GoSem.Claim
import GoSem.ClaimJoined
import GoSem.ClaimMapViews
import Derived.JoinedTies
import Derived.KernelRfl
namespace Go.Proofs.YtbkmlldhjchhjaaGreat
/- THE CELL 'sum', in the pinned program and in every row, IS THE sha256 OF THE DUMP (.gsa) THAT YtbkmlldhjchhjaaGreatProg.lean LOADS. Nothing in Lean hashes anything: it is a label: what it is worth is what the hold of that sum in a sandbox is worth. -/
noncomputable def Tryz.pinned : Pinned := { name := "ytbkmlldhjchhjaagreat", sum := "e0f3f9b7822f18eece63f69f890594c6c5feccf4378b411d8dab898237932c53", checked := Tryz.checked }
namespace Rows
def none {H : Type} : Left H := { results := [], args := [] }

/-- 'emendlaw08.SemiPuts': WHATEVER THE INPUT: true; the input reads as it did. -/
def semiPutsSpec : ChangeSpec := { name := "semiPuts", fn := fun _ => fun
  | [d] => { results := [.lit (.bool true)], args := [d] }
  | _ => none }
def semiPutsRow : OpenClaim := { program := "ytbkmlldhjchhjaagreat", sum := "e0f3f9b7822f18eece63f69f890594c6c5feccf4378b411d8dab898237932c53", func := "emend/emendlaw08.SemiPuts", spec := "semiPuts", inPlace := ["internal/bytealg.IndexByteString", "internal/bytealg.IndexString"], unfollowed := true, recurses := true, named := ["internal/bytealg.MaxLen"], apart := false }
def SemiPutsSaid : Prop := semiPutsRow.holds Tryz.pinned (OpenSpec.ofChange semiPutsSpec)

/-- ITS FALSE NEIGHBOUR: 'it returns false'. Refute it at one input. -/
def semiPutsWrong : ChangeSpec := { name := "semiPuts", fn := fun _ => fun
  | [d] => { results := [.lit (.bool false)], args := [d] }
  | _ => none }
def SemiPutsWrongFalsely : Prop := semiPutsRow.holds Tryz.pinned (OpenSpec.ofChange semiPutsWrong)

/-- 'emendlaw09.NestPairs': WHATEVER THE INPUT: true; the input reads as it did. -/
def nestPairsSpec : ChangeSpec := { name := "nestPairs", fn := fun _ => fun
  | [d] => { results := [.lit (.bool true)], args := [d] }
  | _ => none }
def nestPairsRow : OpenClaim := { program := "ytbkmlldhjchhjaagreat", sum := "e0f3f9b7822f18eece63f69f890594c6c5feccf4378b411d8dab898237932c53", func := "emend/emendlaw09.NestPairs", spec := "nestPairs", inPlace := ["internal/bytealg.IndexByteString", "internal/bytealg.IndexString"], unfollowed := true, recurses := true, named := ["internal/bytealg.MaxLen"], apart := false }
def NestPairsSaid : Prop := nestPairsRow.holds Tryz.pinned (OpenSpec.ofChange nestPairsSpec)

/-- ITS FALSE NEIGHBOUR: 'it returns false'. Refute it at one input. -/
def nestPairsWrong : ChangeSpec := { name := "nestPairs", fn := fun _ => fun
  | [d] => { results := [.lit (.bool false)], args := [d] }
  | _ => none }
def NestPairsWrongFalsely : Prop := nestPairsRow.holds Tryz.pinned (OpenSpec.ofChange nestPairsWrong)

/- THE SECOND FORM. 'bulk': how many values and letters a reading holds, each counted each time it is reached (what is shared counts as often as it is met; a slice's spare places count too). A statement '..UptoSaid' is the law's where the arguments, and the package variables that the reading takes, are together of bulk at most 1048576: NARROWER than '..Said'. Prove '..Said' where nothing that the law and all that it calls make is longer than what came in: it says more and counts as full. Else prove '..UptoSaid'. A law counts once. -/
mutual
def uptoBulk {H : Type} : DataW H → Nat
  | .lit (.string bytes) => bytes.length + 1
  | .lit _ => 1
  | .nil => 1
  | .ptr d => uptoBulk d + 1
  | .slice elems spare => uptoBulkAll elems + uptoBulkAll spare + 1
  | .agg parts => uptoBulkAll parts + 1
  | .iface _ d => uptoBulk d + 1
  | .map entries => uptoBulkEntries entries + 1
  | .held _ => 1
def uptoBulkAll {H : Type} : List (DataW H) → Nat
  | [] => 0
  | d :: r => uptoBulk d + uptoBulkAll r
def uptoBulkEntries {H : Type} : List (Lit × DataW H) → Nat
  | [] => 0
  | x :: r => uptoBulkEntry x + uptoBulkEntries r
def uptoBulkEntry {H : Type} : Lit × DataW H → Nat
  | (.string bytes, d) => bytes.length + uptoBulk d + 1
  | (_, d) => uptoBulk d + 1
 end
def uptoSmall : (H : Type) → List (DataW H) → Bool := fun _ ds => decide (uptoBulkAll ds ≤ 1048576)
def OpenSpec.upto (s : _root_.Go.ChangeSpec) : _root_.Go.OpenSpec := { _root_.Go.OpenSpec.ofChange s with cond := some uptoSmall }

/-- 'emendlaw08.SemiPuts', WHERE WHAT IT READS IS OF BULK AT MOST 1048576: true; the input reads as it did. -/
def semiPutsUptoRow : OpenClaim := { program := "ytbkmlldhjchhjaagreat", sum := "e0f3f9b7822f18eece63f69f890594c6c5feccf4378b411d8dab898237932c53", func := "emend/emendlaw08.SemiPuts", spec := "semiPuts", inPlace := ["internal/bytealg.IndexByteString", "internal/bytealg.IndexString"], unfollowed := true, recurses := true, named := ["internal/bytealg.MaxLen"], apart := false, narrowed := true }
def SemiPutsUptoSaid : Prop := semiPutsUptoRow.holds Tryz.pinned (OpenSpec.upto semiPutsSpec)

/-- 'emendlaw09.NestPairs', WHERE WHAT IT READS IS OF BULK AT MOST 1048576: true; the input reads as it did. -/
def nestPairsUptoRow : OpenClaim := { program := "ytbkmlldhjchhjaagreat", sum := "e0f3f9b7822f18eece63f69f890594c6c5feccf4378b411d8dab898237932c53", func := "emend/emendlaw09.NestPairs", spec := "nestPairs", inPlace := ["internal/bytealg.IndexByteString", "internal/bytealg.IndexString"], unfollowed := true, recurses := true, named := ["internal/bytealg.MaxLen"], apart := false, narrowed := true }
def NestPairsUptoSaid : Prop := nestPairsUptoRow.holds Tryz.pinned (OpenSpec.upto nestPairsSpec)

end Rows
end Go.Proofs.YtbkmlldhjchhjaaGreat
