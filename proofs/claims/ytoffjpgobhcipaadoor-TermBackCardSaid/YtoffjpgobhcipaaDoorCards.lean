/-
  DERIVED. GIVEN WITH THE SEED: THE CARDS: each row of YtoffjpgobhcipaaDoorRows.lean that lists a variable, with what it lists TIED to the program's text (the seventh form; the later family's looks); each row that meets fmt, with fmt's text TOLD by the authors' own Lean function (tested against real Go, not proved from fmt's source: count such statements apart). THE CARD IS WHAT COUNTS. Prove the row's statement (the work); the ties are given (YtoffjpgobhcipaaDoorTie.lean); close each card by the builder's one call (the guide's Derived/Test/ToyasCard.lean, 'card_holds'). Laid BY PROGRAM, IN A SANDBOX (cutbox-door.mjs). By AI agents, Wed Nov 11 2026. No macro, syntax, notation, axiom, sorry.
-/
import Derived.Test.YtoffjpgobhcipaaDoorRows
import GoSem.ClaimSeven
namespace Go.Proofs.YtoffjpgobhcipaaDoor
namespace Rows

/-- THE TIED CARD OF 'emendlaw11.TermBack'. -/
def termBackCard : Claim7 := { stood := { row := termBackRow, standIns := [], harness := (true, "284e64602d89c0c3e66782a6a691c004c982701096ad5d3e7ed69324af1b4629"), looks := true }, kinds := [], alts := [], laidByText := true, laidKinds := [.data, .data, .data, .sentinel, .sentinel], laidTests := true, laidLooks := .later }
def TermBackCardSaid : Prop := Claim7.holds Tryd.pinned (.plain (OpenSpec.ofChange termBackSpec)) termBackCard

/-- THE TIED CARD OF 'emendlaw11.TermFresh'. -/
def termFreshCard : Claim7 := { stood := { row := termFreshRow, standIns := [], harness := (true, "284e64602d89c0c3e66782a6a691c004c982701096ad5d3e7ed69324af1b4629"), looks := true }, kinds := [], alts := [], laidByText := true, laidKinds := [.data, .data, .data, .sentinel, .sentinel], laidTests := true, laidLooks := .later }
def TermFreshCardSaid : Prop := Claim7.holds Tryd.pinned (.plain (OpenSpec.ofChange termFreshSpec)) termFreshCard

/-- THE SECOND FORM's CARD OF 'emendlaw11.TermBack'. -/
def termBackUptoCard : Claim7 := { stood := { row := termBackUptoRow, standIns := [], harness := (true, "284e64602d89c0c3e66782a6a691c004c982701096ad5d3e7ed69324af1b4629"), looks := true }, kinds := [], alts := [], laidByText := true, laidKinds := [.data, .data, .data, .sentinel, .sentinel], laidTests := true, laidLooks := .later }
def TermBackUptoCardSaid : Prop := Claim7.holds Tryd.pinned (.plain (OpenSpec.upto termBackSpec)) termBackUptoCard

/-- THE SECOND FORM's CARD OF 'emendlaw11.TermFresh'. -/
def termFreshUptoCard : Claim7 := { stood := { row := termFreshUptoRow, standIns := [], harness := (true, "284e64602d89c0c3e66782a6a691c004c982701096ad5d3e7ed69324af1b4629"), looks := true }, kinds := [], alts := [], laidByText := true, laidKinds := [.data, .data, .data, .sentinel, .sentinel], laidTests := true, laidLooks := .later }
def TermFreshUptoCardSaid : Prop := Claim7.holds Tryd.pinned (.plain (OpenSpec.upto termFreshSpec)) termFreshUptoCard
end Rows
end Go.Proofs.YtoffjpgobhcipaaDoor
