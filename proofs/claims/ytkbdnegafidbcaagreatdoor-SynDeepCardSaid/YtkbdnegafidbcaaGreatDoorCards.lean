/-
  DERIVED. GIVEN WITH THE SEED: THE CARDS: each row of YtkbdnegafidbcaaGreatDoorRows.lean that lists a variable, with what it lists TIED to the program's text (the seventh form; the later family's looks); each row that meets fmt, with fmt's text TOLD by the authors' own Lean function (tested against real Go, not proved from fmt's source: count such statements apart). THE CARD IS WHAT COUNTS. Prove the row's statement (the work); the ties are given (YtkbdnegafidbcaaGreatDoorTie.lean); close each card by the builder's one call (the guide's Derived/Test/ToyasCard.lean, 'card_holds'). Laid BY PROGRAM, IN A SANDBOX (cutbox-door.mjs). By AI agents, Wed Nov 11 2026. No macro, syntax, notation, axiom, sorry.
-/
import Derived.Test.YtkbdnegafidbcaaGreatDoorRows
import GoSem.ClaimSeven
namespace Go.Proofs.YtkbdnegafidbcaaGreatDoor
namespace Rows

/-- THE TIED CARD OF 'gristmilllaw5.SynDeep'. -/
def synDeepCard : Claim7 := { stood := { row := synDeepRow, standIns := [], harness := (true, "66870d4db6ddb07447ebb55f77d2c443901c14a818c9404cc078aba0945eb546"), looks := true }, kinds := [], alts := [], laidByText := true, laidKinds := [.data, .data, .data, .handle, .sentinel, .sentinel, .sentinel, .sentinel, .sentinel, .sentinel, .sentinel, .sentinel, .sentinel, .sentinel, .sentinel, .sentinel, .sentinel, .sentinel, .sentinel, .sentinel, .sentinel, .sentinel, .sentinel, .sentinel, .data], laidTests := true, laidLooks := .later }
def SynDeepCardSaid : Prop := Claim7.holds Tryz.pinned (.plain (OpenSpec.ofChange synDeepSpec)) synDeepCard

/-- THE SECOND FORM's CARD OF 'gristmilllaw5.SynDeep'. -/
def synDeepUptoCard : Claim7 := { stood := { row := synDeepUptoRow, standIns := [], harness := (true, "66870d4db6ddb07447ebb55f77d2c443901c14a818c9404cc078aba0945eb546"), looks := true }, kinds := [], alts := [], laidByText := true, laidKinds := [.data, .data, .data, .handle, .sentinel, .sentinel, .sentinel, .sentinel, .sentinel, .sentinel, .sentinel, .sentinel, .sentinel, .sentinel, .sentinel, .sentinel, .sentinel, .sentinel, .sentinel, .sentinel, .sentinel, .sentinel, .sentinel, .sentinel, .data], laidTests := true, laidLooks := .later }
def SynDeepUptoCardSaid : Prop := Claim7.holds Tryz.pinned (.plain (OpenSpec.upto synDeepSpec)) synDeepUptoCard
end Rows
end Go.Proofs.YtkbdnegafidbcaaGreatDoor
