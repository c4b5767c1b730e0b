/-
  DERIVED. GIVEN WITH THE SEED: THE CARDS: each row of YtknljgjjaifjhaaGreatDoorRows.lean that lists a variable, with what it lists TIED to the program's text (the seventh form; the later family's looks); each row that meets fmt, with fmt's text TOLD by the authors' own Lean function (tested against real Go, not proved from fmt's source: count such statements apart). THE CARD IS WHAT COUNTS. Prove the row's statement (the work); the ties are given (YtknljgjjaifjhaaGreatDoorTie.lean); close each card by the builder's one call (the guide's Derived/Test/ToyasCard.lean, 'card_holds'). Laid BY PROGRAM, IN A SANDBOX (cutbox-door.mjs). By AI agents, Wed Nov 11 2026. No macro, syntax, notation, axiom, sorry.
-/
import Derived.Test.YtknljgjjaifjhaaGreatDoorRows
import GoSem.ClaimSeven
namespace Go.Proofs.YtknljgjjaifjhaaGreatDoor
namespace Rows

/-- THE TIED CARD OF 'gristmilllaw6.ScopeWrong'. -/
def scopeWrongCard : Claim7 := { stood := { row := scopeWrongRow, standIns := [], harness := (true, "e4b1817859b5d6a932a1f3a6e15c20b24ec637b50b7493f2d12b78eb144258e6"), looks := true }, kinds := [], alts := [], laidByText := true, laidKinds := [.data, .data, .data, .sentinel, .sentinel, .sentinel, .sentinel, .sentinel, .sentinel, .sentinel, .sentinel, .sentinel, .sentinel, .sentinel, .sentinel, .sentinel, .sentinel, .sentinel, .sentinel, .sentinel, .sentinel, .data], laidTests := true, laidLooks := .later }
def ScopeWrongCardSaid : Prop := Claim7.holds Tryz.pinned (.plain (OpenSpec.ofChange scopeWrongSpec)) scopeWrongCard

/-- THE TIED CARD OF 'gristmilllaw6.ScopeShadows'. -/
def scopeShadowsCard : Claim7 := { stood := { row := scopeShadowsRow, standIns := [], harness := (true, "e4b1817859b5d6a932a1f3a6e15c20b24ec637b50b7493f2d12b78eb144258e6"), looks := true }, kinds := [], alts := [], laidByText := true, laidKinds := [.data, .data, .data, .sentinel, .sentinel, .sentinel, .sentinel, .sentinel, .sentinel, .sentinel, .sentinel, .sentinel, .sentinel, .sentinel, .sentinel, .sentinel, .sentinel, .sentinel, .sentinel, .sentinel, .sentinel, .data], laidTests := true, laidLooks := .later }
def ScopeShadowsCardSaid : Prop := Claim7.holds Tryz.pinned (.plain (OpenSpec.ofChange scopeShadowsSpec)) scopeShadowsCard

/-- THE SECOND FORM's CARD OF 'gristmilllaw6.ScopeWrong'. -/
def scopeWrongUptoCard : Claim7 := { stood := { row := scopeWrongUptoRow, standIns := [], harness := (true, "e4b1817859b5d6a932a1f3a6e15c20b24ec637b50b7493f2d12b78eb144258e6"), looks := true }, kinds := [], alts := [], laidByText := true, laidKinds := [.data, .data, .data, .sentinel, .sentinel, .sentinel, .sentinel, .sentinel, .sentinel, .sentinel, .sentinel, .sentinel, .sentinel, .sentinel, .sentinel, .sentinel, .sentinel, .sentinel, .sentinel, .sentinel, .sentinel, .data], laidTests := true, laidLooks := .later }
def ScopeWrongUptoCardSaid : Prop := Claim7.holds Tryz.pinned (.plain (OpenSpec.upto scopeWrongSpec)) scopeWrongUptoCard

/-- THE SECOND FORM's CARD OF 'gristmilllaw6.ScopeShadows'. -/
def scopeShadowsUptoCard : Claim7 := { stood := { row := scopeShadowsUptoRow, standIns := [], harness := (true, "e4b1817859b5d6a932a1f3a6e15c20b24ec637b50b7493f2d12b78eb144258e6"), looks := true }, kinds := [], alts := [], laidByText := true, laidKinds := [.data, .data, .data, .sentinel, .sentinel, .sentinel, .sentinel, .sentinel, .sentinel, .sentinel, .sentinel, .sentinel, .sentinel, .sentinel, .sentinel, .sentinel, .sentinel, .sentinel, .sentinel, .sentinel, .sentinel, .data], laidTests := true, laidLooks := .later }
def ScopeShadowsUptoCardSaid : Prop := Claim7.holds Tryz.pinned (.plain (OpenSpec.upto scopeShadowsSpec)) scopeShadowsUptoCard
end Rows
end Go.Proofs.YtknljgjjaifjhaaGreatDoor
