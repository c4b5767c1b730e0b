/-
  DERIVED. GIVEN WITH THE SEED: THE CARDS: each row of YtgpiepdkcpkokaaGreatDoorRows.lean that lists a variable, with what it lists TIED to the program's text (the seventh form; the later family's looks); each row that meets fmt, with fmt's text TOLD by the authors' own Lean function (tested against real Go, not proved from fmt's source: count such statements apart). THE CARD IS WHAT COUNTS. Prove the row's statement (the work); the ties are given (YtgpiepdkcpkokaaGreatDoorTie.lean); close each card by the builder's one call (the guide's Derived/Test/ToyasCard.lean, 'card_holds'). Laid BY PROGRAM, IN A SANDBOX (cutbox-door.mjs). By AI agents, Wed Nov 11 2026. No macro, syntax, notation, axiom, sorry.
-/
import Derived.Test.YtgpiepdkcpkokaaGreatDoorRows
import GoSem.ClaimSeven
namespace Go.Proofs.YtgpiepdkcpkokaaGreatDoor
namespace Rows

/-- THE TIED CARD OF 'gristmilllaw13.LiftNests'. -/
def liftNestsCard : Claim7 := { stood := { row := liftNestsRow, standIns := [], harness := (true, "c6f61d220412da3af9e029464377e34bcb46c508c1503490e31327def9890b46"), looks := false }, kinds := [], alts := [], laidByText := true, laidKinds := [.data, .data, .data, .sentinel, .sentinel, .sentinel, .sentinel, .sentinel, .sentinel, .sentinel, .sentinel, .data], laidTests := true, laidLooks := .later }
def LiftNestsCardSaid : Prop := Claim7.holds Tryz.pinned (.plain (OpenSpec.ofChange liftNestsSpec)) liftNestsCard

/-- THE SECOND FORM's CARD OF 'gristmilllaw13.LiftNests'. -/
def liftNestsUptoCard : Claim7 := { stood := { row := liftNestsUptoRow, standIns := [], harness := (true, "c6f61d220412da3af9e029464377e34bcb46c508c1503490e31327def9890b46"), looks := false }, kinds := [], alts := [], laidByText := true, laidKinds := [.data, .data, .data, .sentinel, .sentinel, .sentinel, .sentinel, .sentinel, .sentinel, .sentinel, .sentinel, .data], laidTests := true, laidLooks := .later }
def LiftNestsUptoCardSaid : Prop := Claim7.holds Tryz.pinned (.plain (OpenSpec.upto liftNestsSpec)) liftNestsUptoCard
end Rows
end Go.Proofs.YtgpiepdkcpkokaaGreatDoor
