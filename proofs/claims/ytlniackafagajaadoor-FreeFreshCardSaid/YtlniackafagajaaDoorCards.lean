/-
  DERIVED. GIVEN WITH THE SEED: THE CARDS: each row of YtlniackafagajaaDoorRows.lean that lists a variable, with what it lists TIED to the program's text (the seventh form; the later family's looks); each row that meets fmt, with fmt's text TOLD by the authors' own Lean function (tested against real Go, not proved from fmt's source: count such statements apart). THE CARD IS WHAT COUNTS. Prove the row's statement (the work); the ties are given (YtlniackafagajaaDoorTie.lean); close each card by the builder's one call (the guide's Derived/Test/ToyasCard.lean, 'card_holds'). Laid BY PROGRAM, IN A SANDBOX (cutbox-door.mjs). By AI agents, Wed Nov 11 2026. No macro, syntax, notation, axiom, sorry.
-/
import Derived.Test.YtlniackafagajaaDoorRows
import GoSem.ClaimSeven
namespace Go.Proofs.YtlniackafagajaaDoor
namespace Rows

/-- THE TIED CARD OF 'gristmilllaw10.FreeFresh'. -/
def freeFreshCard : Claim7 := { stood := { row := freeFreshRow, standIns := [], harness := (true, "a29b3b42e6619a13a7536343ea29ac0cfa058531c3f11c2318a3da5e6583244a"), looks := false }, kinds := [], alts := [], laidByText := true, laidKinds := [.data, .data, .data], laidTests := true, laidLooks := .later }
def FreeFreshCardSaid : Prop := Claim7.holds Tryd.pinned (.plain (OpenSpec.ofChange freeFreshSpec)) freeFreshCard

/-- THE SECOND FORM's CARD OF 'gristmilllaw10.FreeFresh'. -/
def freeFreshUptoCard : Claim7 := { stood := { row := freeFreshUptoRow, standIns := [], harness := (true, "a29b3b42e6619a13a7536343ea29ac0cfa058531c3f11c2318a3da5e6583244a"), looks := false }, kinds := [], alts := [], laidByText := true, laidKinds := [.data, .data, .data], laidTests := true, laidLooks := .later }
def FreeFreshUptoCardSaid : Prop := Claim7.holds Tryd.pinned (.plain (OpenSpec.upto freeFreshSpec)) freeFreshUptoCard
end Rows
end Go.Proofs.YtlniackafagajaaDoor
