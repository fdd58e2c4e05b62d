/-
  DERIVED. GIVEN WITH THE SEED: THE CARDS: each row of YtoffjpgobhcipaaGreatDoorRows.lean that lists a variable, with what it lists TIED to the program's text (the seventh form; the later family's looks); each row that meets fmt, with fmt's text TOLD by the authors' own Lean function (tested against real Go, not proved from fmt's source: count such statements apart). THE CARD IS WHAT COUNTS. Prove the row's statement (the work); the ties are given (YtoffjpgobhcipaaGreatDoorTie.lean); close each card by the builder's one call (the guide's Derived/Test/ToyasCard.lean, 'card_holds'). Laid BY PROGRAM, IN A SANDBOX (cutbox-door.mjs). By AI agents, Wed Nov 11 2026. No macro, syntax, notation, axiom, sorry.
-/
import Derived.Test.YtoffjpgobhcipaaGreatDoorRows
import GoSem.ClaimSeven
namespace Go.Proofs.YtoffjpgobhcipaaGreatDoor
namespace Rows

/-- THE TIED CARD OF 'emendlaw11.TermChecks'. -/
def termChecksCard : Claim7 := { stood := { row := termChecksRow, standIns := [], harness := (true, "5ae7d9baa7ec105ded9002229cc799f1fb100b022fbe99019ee5be8e59aa80e4"), looks := true }, kinds := [], alts := [], laidByText := true, laidKinds := [.data, .data, .data, .sentinel, .sentinel], laidTests := true, laidLooks := .later }
def TermChecksCardSaid : Prop := Claim7.holds Tryz.pinned (.plain (OpenSpec.ofChange termChecksSpec)) termChecksCard

/-- THE TIED CARD OF 'emendlaw11.TermWords'. -/
def termWordsCard : Claim7 := { stood := { row := termWordsRow, standIns := [], harness := (true, "5ae7d9baa7ec105ded9002229cc799f1fb100b022fbe99019ee5be8e59aa80e4"), looks := true }, kinds := [], alts := [], laidByText := true, laidKinds := [.data, .data, .data, .sentinel, .sentinel], laidTests := true, laidLooks := .later }
def TermWordsCardSaid : Prop := Claim7.holds Tryz.pinned (.plain (OpenSpec.ofChange termWordsSpec)) termWordsCard

/-- THE TIED CARD OF 'emendlaw11.TermParts'. -/
def termPartsCard : Claim7 := { stood := { row := termPartsRow, standIns := [], harness := (true, "5ae7d9baa7ec105ded9002229cc799f1fb100b022fbe99019ee5be8e59aa80e4"), looks := true }, kinds := [], alts := [], laidByText := true, laidKinds := [.data, .data, .data, .sentinel, .sentinel], laidTests := true, laidLooks := .later }
def TermPartsCardSaid : Prop := Claim7.holds Tryz.pinned (.plain (OpenSpec.ofChange termPartsSpec)) termPartsCard

/-- THE TIED CARD OF 'emendlaw11.TermShows'. -/
def termShowsCard : Claim7 := { stood := { row := termShowsRow, standIns := [], harness := (true, "5ae7d9baa7ec105ded9002229cc799f1fb100b022fbe99019ee5be8e59aa80e4"), looks := true }, kinds := [], alts := [], laidByText := true, laidKinds := [.data, .data, .data, .sentinel, .sentinel], laidTests := true, laidLooks := .later }
def TermShowsCardSaid : Prop := Claim7.holds Tryz.pinned (.plain (OpenSpec.ofChange termShowsSpec)) termShowsCard

/-- THE TIED CARD OF 'emendlaw11.TermReads'. -/
def termReadsCard : Claim7 := { stood := { row := termReadsRow, standIns := [], harness := (true, "5ae7d9baa7ec105ded9002229cc799f1fb100b022fbe99019ee5be8e59aa80e4"), looks := true }, kinds := [], alts := [], laidByText := true, laidKinds := [.data, .data, .data, .sentinel, .sentinel], laidTests := true, laidLooks := .later }
def TermReadsCardSaid : Prop := Claim7.holds Tryz.pinned (.plain (OpenSpec.ofChange termReadsSpec)) termReadsCard

/-- THE TIED CARD OF 'emendlaw11.TermSwaps'. -/
def termSwapsCard : Claim7 := { stood := { row := termSwapsRow, standIns := [], harness := (true, "5ae7d9baa7ec105ded9002229cc799f1fb100b022fbe99019ee5be8e59aa80e4"), looks := true }, kinds := [], alts := [], laidByText := true, laidKinds := [.data, .data, .data, .sentinel, .sentinel], laidTests := true, laidLooks := .later }
def TermSwapsCardSaid : Prop := Claim7.holds Tryz.pinned (.plain (OpenSpec.ofChange termSwapsSpec)) termSwapsCard

/-- THE SECOND FORM's CARD OF 'emendlaw11.TermChecks'. -/
def termChecksUptoCard : Claim7 := { stood := { row := termChecksUptoRow, standIns := [], harness := (true, "5ae7d9baa7ec105ded9002229cc799f1fb100b022fbe99019ee5be8e59aa80e4"), looks := true }, kinds := [], alts := [], laidByText := true, laidKinds := [.data, .data, .data, .sentinel, .sentinel], laidTests := true, laidLooks := .later }
def TermChecksUptoCardSaid : Prop := Claim7.holds Tryz.pinned (.plain (OpenSpec.upto termChecksSpec)) termChecksUptoCard

/-- THE SECOND FORM's CARD OF 'emendlaw11.TermWords'. -/
def termWordsUptoCard : Claim7 := { stood := { row := termWordsUptoRow, standIns := [], harness := (true, "5ae7d9baa7ec105ded9002229cc799f1fb100b022fbe99019ee5be8e59aa80e4"), looks := true }, kinds := [], alts := [], laidByText := true, laidKinds := [.data, .data, .data, .sentinel, .sentinel], laidTests := true, laidLooks := .later }
def TermWordsUptoCardSaid : Prop := Claim7.holds Tryz.pinned (.plain (OpenSpec.upto termWordsSpec)) termWordsUptoCard

/-- THE SECOND FORM's CARD OF 'emendlaw11.TermParts'. -/
def termPartsUptoCard : Claim7 := { stood := { row := termPartsUptoRow, standIns := [], harness := (true, "5ae7d9baa7ec105ded9002229cc799f1fb100b022fbe99019ee5be8e59aa80e4"), looks := true }, kinds := [], alts := [], laidByText := true, laidKinds := [.data, .data, .data, .sentinel, .sentinel], laidTests := true, laidLooks := .later }
def TermPartsUptoCardSaid : Prop := Claim7.holds Tryz.pinned (.plain (OpenSpec.upto termPartsSpec)) termPartsUptoCard

/-- THE SECOND FORM's CARD OF 'emendlaw11.TermShows'. -/
def termShowsUptoCard : Claim7 := { stood := { row := termShowsUptoRow, standIns := [], harness := (true, "5ae7d9baa7ec105ded9002229cc799f1fb100b022fbe99019ee5be8e59aa80e4"), looks := true }, kinds := [], alts := [], laidByText := true, laidKinds := [.data, .data, .data, .sentinel, .sentinel], laidTests := true, laidLooks := .later }
def TermShowsUptoCardSaid : Prop := Claim7.holds Tryz.pinned (.plain (OpenSpec.upto termShowsSpec)) termShowsUptoCard

/-- THE SECOND FORM's CARD OF 'emendlaw11.TermReads'. -/
def termReadsUptoCard : Claim7 := { stood := { row := termReadsUptoRow, standIns := [], harness := (true, "5ae7d9baa7ec105ded9002229cc799f1fb100b022fbe99019ee5be8e59aa80e4"), looks := true }, kinds := [], alts := [], laidByText := true, laidKinds := [.data, .data, .data, .sentinel, .sentinel], laidTests := true, laidLooks := .later }
def TermReadsUptoCardSaid : Prop := Claim7.holds Tryz.pinned (.plain (OpenSpec.upto termReadsSpec)) termReadsUptoCard

/-- THE SECOND FORM's CARD OF 'emendlaw11.TermSwaps'. -/
def termSwapsUptoCard : Claim7 := { stood := { row := termSwapsUptoRow, standIns := [], harness := (true, "5ae7d9baa7ec105ded9002229cc799f1fb100b022fbe99019ee5be8e59aa80e4"), looks := true }, kinds := [], alts := [], laidByText := true, laidKinds := [.data, .data, .data, .sentinel, .sentinel], laidTests := true, laidLooks := .later }
def TermSwapsUptoCardSaid : Prop := Claim7.holds Tryz.pinned (.plain (OpenSpec.upto termSwapsSpec)) termSwapsUptoCard
end Rows
end Go.Proofs.YtoffjpgobhcipaaGreatDoor
