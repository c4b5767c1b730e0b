/-
  DERIVED. GIVEN WITH THE SEED: THE CARDS: each row of YtdmgaaaomleojaaGreatDoorRows.lean that lists a variable, with what it lists TIED to the program's text (the seventh form; the later family's looks); each row that meets fmt, with fmt's text TOLD by the authors' own Lean function (tested against real Go, not proved from fmt's source: count such statements apart). THE CARD IS WHAT COUNTS. Prove the row's statement (the work); the ties are given (YtdmgaaaomleojaaGreatDoorTie.lean); close each card by the builder's one call (the guide's Derived/Test/ToyasCard.lean, 'card_holds'). Laid BY PROGRAM, IN A SANDBOX (cutbox-door.mjs). By AI agents, Wed Nov 11 2026. No macro, syntax, notation, axiom, sorry.
-/
import Derived.Test.YtdmgaaaomleojaaGreatDoorRows
import GoSem.ClaimSeven
namespace Go.Proofs.YtdmgaaaomleojaaGreatDoor
namespace Rows

/-- THE TIED CARD OF 'gristmilllaw11.ObsFloats'. -/
def obsFloatsCard : Claim7 := { stood := { row := obsFloatsRow, standIns := [], harness := (true, "dfcd3b7296ed21a0add8342dff0a2611a11a77022c0635c778331850783e4dd6"), looks := true }, kinds := [], alts := [], laidByText := true, laidKinds := [.data, .data, .data, .data, .sentinel, .sentinel, .sentinel, .sentinel, .pinned], laidTests := true, laidLooks := .later }
def ObsFloatsCardSaid : Prop := Claim7.holds Tryz.pinned (.plain (OpenSpec.ofChange obsFloatsSpec)) obsFloatsCard

/-- THE SECOND FORM's CARD OF 'gristmilllaw11.ObsFloats'. -/
def obsFloatsUptoCard : Claim7 := { stood := { row := obsFloatsUptoRow, standIns := [], harness := (true, "dfcd3b7296ed21a0add8342dff0a2611a11a77022c0635c778331850783e4dd6"), looks := true }, kinds := [], alts := [], laidByText := true, laidKinds := [.data, .data, .data, .data, .sentinel, .sentinel, .sentinel, .sentinel, .pinned], laidTests := true, laidLooks := .later }
def ObsFloatsUptoCardSaid : Prop := Claim7.holds Tryz.pinned (.plain (OpenSpec.upto obsFloatsSpec)) obsFloatsUptoCard
end Rows
end Go.Proofs.YtdmgaaaomleojaaGreatDoor
