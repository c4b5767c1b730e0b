/-
  DERIVED. GIVEN WITH THE SEED: THE CARDS: each row of YtledjcplbldokaaGreatDoorRows.lean that lists a variable, with what it lists TIED to the program's text (the seventh form; the later family's looks); each row that meets fmt, with fmt's text TOLD by the authors' own Lean function (tested against real Go, not proved from fmt's source: count such statements apart). THE CARD IS WHAT COUNTS. Prove the row's statement (the work); the ties are given (YtledjcplbldokaaGreatDoorTie.lean); close each card by the builder's one call (the guide's Derived/Test/ToyasCard.lean, 'card_holds'). Laid BY PROGRAM, IN A SANDBOX (cutbox-door.mjs). By AI agents, Wed Nov 11 2026. No macro, syntax, notation, axiom, sorry.
-/
import Derived.Test.YtledjcplbldokaaGreatDoorRows
import GoSem.ClaimSeven
namespace Go.Proofs.YtledjcplbldokaaGreatDoor
namespace Rows

/-- THE TIED CARD OF 'gristmilllaw5.SynOwn'. -/
def synOwnCard : Claim7 := { stood := { row := synOwnRow, standIns := [], harness := (true, "7945766190825754afead4bcfc48e14e29f9d8f8712ffa489c50bcb342b0831a"), looks := true }, kinds := [], alts := [], laidByText := true, laidKinds := [.data, .data, .data, .handle, .sentinel, .sentinel, .sentinel, .sentinel, .sentinel, .sentinel, .sentinel, .sentinel, .sentinel, .data], laidTests := true, laidLooks := .later }
def SynOwnCardSaid : Prop := Claim7.holds Tryz.pinned (.plain (OpenSpec.ofChange synOwnSpec)) synOwnCard

/-- THE SECOND FORM's CARD OF 'gristmilllaw5.SynOwn'. -/
def synOwnUptoCard : Claim7 := { stood := { row := synOwnUptoRow, standIns := [], harness := (true, "7945766190825754afead4bcfc48e14e29f9d8f8712ffa489c50bcb342b0831a"), looks := true }, kinds := [], alts := [], laidByText := true, laidKinds := [.data, .data, .data, .handle, .sentinel, .sentinel, .sentinel, .sentinel, .sentinel, .sentinel, .sentinel, .sentinel, .sentinel, .data], laidTests := true, laidLooks := .later }
def SynOwnUptoCardSaid : Prop := Claim7.holds Tryz.pinned (.plain (OpenSpec.upto synOwnSpec)) synOwnUptoCard
end Rows
end Go.Proofs.YtledjcplbldokaaGreatDoor
