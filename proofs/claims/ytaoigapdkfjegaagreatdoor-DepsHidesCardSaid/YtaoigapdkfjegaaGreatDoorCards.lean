/-
  DERIVED. GIVEN WITH THE SEED: THE CARDS: each row of YtaoigapdkfjegaaGreatDoorRows.lean that lists a variable, with what it lists TIED to the program's text (the seventh form; the later family's looks); each row that meets fmt, with fmt's text TOLD by the authors' own Lean function (tested against real Go, not proved from fmt's source: count such statements apart). THE CARD IS WHAT COUNTS. Prove the row's statement (the work); the ties are given (YtaoigapdkfjegaaGreatDoorTie.lean); close each card by the builder's one call (the guide's Derived/Test/ToyasCard.lean, 'card_holds'). Laid BY PROGRAM, IN A SANDBOX (cutbox-door.mjs). By AI agents, Wed Nov 11 2026. No macro, syntax, notation, axiom, sorry.
-/
import Derived.Test.YtaoigapdkfjegaaGreatDoorRows
import GoSem.ClaimSeven
namespace Go.Proofs.YtaoigapdkfjegaaGreatDoor
namespace Rows

/-- THE TIED CARD OF 'gristmilllaw7.DepsChains'. -/
def depsChainsCard : Claim7 := { stood := { row := depsChainsRow, standIns := [], harness := (true, "c917be01b15455dd738143849b2a4abae1580d0286ee47ed766076e4e1dd3e15"), looks := false }, kinds := [], alts := [], laidByText := true, laidKinds := [.data, .data, .data, .sentinel, .sentinel, .sentinel, .sentinel, .data], laidTests := true, laidLooks := .later }
def DepsChainsCardSaid : Prop := Claim7.holds Tryz.pinned (.plain (OpenSpec.ofChange depsChainsSpec)) depsChainsCard

/-- THE TIED CARD OF 'gristmilllaw7.DepsHides'. -/
def depsHidesCard : Claim7 := { stood := { row := depsHidesRow, standIns := [], harness := (true, "c917be01b15455dd738143849b2a4abae1580d0286ee47ed766076e4e1dd3e15"), looks := false }, kinds := [], alts := [], laidByText := true, laidKinds := [.data, .data, .data, .sentinel, .sentinel, .sentinel, .sentinel, .data], laidTests := true, laidLooks := .later }
def DepsHidesCardSaid : Prop := Claim7.holds Tryz.pinned (.plain (OpenSpec.ofChange depsHidesSpec)) depsHidesCard

/-- THE SECOND FORM's CARD OF 'gristmilllaw7.DepsChains'. -/
def depsChainsUptoCard : Claim7 := { stood := { row := depsChainsUptoRow, standIns := [], harness := (true, "c917be01b15455dd738143849b2a4abae1580d0286ee47ed766076e4e1dd3e15"), looks := false }, kinds := [], alts := [], laidByText := true, laidKinds := [.data, .data, .data, .sentinel, .sentinel, .sentinel, .sentinel, .data], laidTests := true, laidLooks := .later }
def DepsChainsUptoCardSaid : Prop := Claim7.holds Tryz.pinned (.plain (OpenSpec.upto depsChainsSpec)) depsChainsUptoCard

/-- THE SECOND FORM's CARD OF 'gristmilllaw7.DepsHides'. -/
def depsHidesUptoCard : Claim7 := { stood := { row := depsHidesUptoRow, standIns := [], harness := (true, "c917be01b15455dd738143849b2a4abae1580d0286ee47ed766076e4e1dd3e15"), looks := false }, kinds := [], alts := [], laidByText := true, laidKinds := [.data, .data, .data, .sentinel, .sentinel, .sentinel, .sentinel, .data], laidTests := true, laidLooks := .later }
def DepsHidesUptoCardSaid : Prop := Claim7.holds Tryz.pinned (.plain (OpenSpec.upto depsHidesSpec)) depsHidesUptoCard
end Rows
end Go.Proofs.YtaoigapdkfjegaaGreatDoor
