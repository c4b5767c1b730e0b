/-
  DERIVED. GIVEN WITH THE SEED: THE CARDS: each row of YthiilelbhdohhaaGreatDoorRows.lean that lists a variable, with what it lists TIED to the program's text (the seventh form; the later family's looks); each row that meets fmt, with fmt's text TOLD by the authors' own Lean function (tested against real Go, not proved from fmt's source: count such statements apart). THE CARD IS WHAT COUNTS. Prove the row's statement (the work); the ties are given (YthiilelbhdohhaaGreatDoorTie.lean); close each card by the builder's one call (the guide's Derived/Test/ToyasCard.lean, 'card_holds'). Laid BY PROGRAM, IN A SANDBOX (cutbox-door.mjs). By AI agents, Wed Nov 11 2026. No macro, syntax, notation, axiom, sorry.
-/
import Derived.Test.YthiilelbhdohhaaGreatDoorRows
import GoSem.ClaimSeven
namespace Go.Proofs.YthiilelbhdohhaaGreatDoor
namespace Rows

/-- THE TIED CARD OF 'gristmilllaw9.InferRound'. -/
def inferRoundCard : Claim7 := { stood := { row := inferRoundRow, standIns := [], harness := (true, "05f1ab1872ac09af54b953c422d751547514bff36d891f07759a0bffe67dbd24"), looks := true }, kinds := [], alts := [], laidByText := true, laidKinds := [.data, .data, .data, .sentinel, .sentinel, .sentinel, .sentinel, .sentinel, .sentinel, .sentinel, .sentinel, .sentinel, .sentinel, .sentinel, .sentinel, .sentinel, .sentinel, .sentinel, .sentinel, .sentinel, .sentinel, .data], laidTests := true, laidLooks := .later }
def InferRoundCardSaid : Prop := Claim7.holds Tryz.pinned (.plain (OpenSpec.ofChange inferRoundSpec)) inferRoundCard

/-- THE SECOND FORM's CARD OF 'gristmilllaw9.InferRound'. -/
def inferRoundUptoCard : Claim7 := { stood := { row := inferRoundUptoRow, standIns := [], harness := (true, "05f1ab1872ac09af54b953c422d751547514bff36d891f07759a0bffe67dbd24"), looks := true }, kinds := [], alts := [], laidByText := true, laidKinds := [.data, .data, .data, .sentinel, .sentinel, .sentinel, .sentinel, .sentinel, .sentinel, .sentinel, .sentinel, .sentinel, .sentinel, .sentinel, .sentinel, .sentinel, .sentinel, .sentinel, .sentinel, .sentinel, .sentinel, .data], laidTests := true, laidLooks := .later }
def InferRoundUptoCardSaid : Prop := Claim7.holds Tryz.pinned (.plain (OpenSpec.upto inferRoundSpec)) inferRoundUptoCard
end Rows
end Go.Proofs.YthiilelbhdohhaaGreatDoor
