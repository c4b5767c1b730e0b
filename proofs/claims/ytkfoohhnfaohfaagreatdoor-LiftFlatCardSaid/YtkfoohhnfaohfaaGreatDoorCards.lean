/-
  DERIVED. GIVEN WITH THE SEED: THE CARDS: each row of YtkfoohhnfaohfaaGreatDoorRows.lean that lists a variable, with what it lists TIED to the program's text (the seventh form; the later family's looks); each row that meets fmt, with fmt's text TOLD by the authors' own Lean function (tested against real Go, not proved from fmt's source: count such statements apart). THE CARD IS WHAT COUNTS. Prove the row's statement (the work); the ties are given (YtkfoohhnfaohfaaGreatDoorTie.lean); close each card by the builder's one call (the guide's Derived/Test/ToyasCard.lean, 'card_holds'). Laid BY PROGRAM, IN A SANDBOX (cutbox-door.mjs). By AI agents, Wed Nov 11 2026. No macro, syntax, notation, axiom, sorry.
-/
import Derived.Test.YtkfoohhnfaohfaaGreatDoorRows
import GoSem.ClaimSeven
namespace Go.Proofs.YtkfoohhnfaohfaaGreatDoor
namespace Rows

/-- THE TIED CARD OF 'gristmilllaw13.LiftFlat'. -/
def liftFlatCard : Claim7 := { stood := { row := liftFlatRow, standIns := [], harness := (true, "53c4ba95d8cc0ad2983da321f64b3b51993d32a2d88c5e7fa2002b556677940e"), looks := false }, kinds := [], alts := [], laidByText := true, laidKinds := [.data, .data, .data, .sentinel, .sentinel, .sentinel, .sentinel, .sentinel, .sentinel, .sentinel, .sentinel, .data], laidTests := true, laidLooks := .later }
def LiftFlatCardSaid : Prop := Claim7.holds Tryz.pinned (.plain (OpenSpec.ofChange liftFlatSpec)) liftFlatCard

/-- THE SECOND FORM's CARD OF 'gristmilllaw13.LiftFlat'. -/
def liftFlatUptoCard : Claim7 := { stood := { row := liftFlatUptoRow, standIns := [], harness := (true, "53c4ba95d8cc0ad2983da321f64b3b51993d32a2d88c5e7fa2002b556677940e"), looks := false }, kinds := [], alts := [], laidByText := true, laidKinds := [.data, .data, .data, .sentinel, .sentinel, .sentinel, .sentinel, .sentinel, .sentinel, .sentinel, .sentinel, .data], laidTests := true, laidLooks := .later }
def LiftFlatUptoCardSaid : Prop := Claim7.holds Tryz.pinned (.plain (OpenSpec.upto liftFlatSpec)) liftFlatUptoCard
end Rows
end Go.Proofs.YtkfoohhnfaohfaaGreatDoor
