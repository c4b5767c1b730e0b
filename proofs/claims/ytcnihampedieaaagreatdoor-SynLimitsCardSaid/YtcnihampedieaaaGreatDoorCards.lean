/-
  DERIVED. GIVEN WITH THE SEED: THE CARDS: each row of YtcnihampedieaaaGreatDoorRows.lean that lists a variable, with what it lists TIED to the program's text (the seventh form; the later family's looks); each row that meets fmt, with fmt's text TOLD by the authors' own Lean function (tested against real Go, not proved from fmt's source: count such statements apart). THE CARD IS WHAT COUNTS. Prove the row's statement (the work); the ties are given (YtcnihampedieaaaGreatDoorTie.lean); close each card by the builder's one call (the guide's Derived/Test/ToyasCard.lean, 'card_holds'). Laid BY PROGRAM, IN A SANDBOX (cutbox-door.mjs). By AI agents, Wed Nov 11 2026. No macro, syntax, notation, axiom, sorry.
-/
import Derived.Test.YtcnihampedieaaaGreatDoorRows
import GoSem.ClaimSeven
namespace Go.Proofs.YtcnihampedieaaaGreatDoor
namespace Rows

/-- THE TIED CARD OF 'gristmilllaw5.SynSays'. -/
def synSaysCard : Claim7 := { stood := { row := synSaysRow, standIns := [], harness := (true, "120fe64d46065e8d4d91a5315c6a5785c5b5e4dbf7944eccddd05e355ea09fd7"), looks := true }, kinds := [], alts := [], laidByText := true, laidKinds := [.data, .data, .data, .handle, .sentinel, .sentinel, .sentinel, .sentinel, .sentinel, .sentinel, .sentinel, .sentinel, .sentinel, .sentinel, .sentinel, .sentinel, .sentinel, .sentinel, .sentinel, .sentinel, .sentinel, .sentinel, .sentinel, .sentinel, .data], laidTests := true, laidLooks := .later }
def SynSaysCardSaid : Prop := Claim7.holds Tryz.pinned (.plain (OpenSpec.ofChange synSaysSpec)) synSaysCard

/-- THE TIED CARD OF 'gristmilllaw5.SynBack'. -/
def synBackCard : Claim7 := { stood := { row := synBackRow, standIns := [], harness := (true, "120fe64d46065e8d4d91a5315c6a5785c5b5e4dbf7944eccddd05e355ea09fd7"), looks := true }, kinds := [], alts := [], laidByText := true, laidKinds := [.data, .data, .data, .handle, .sentinel, .sentinel, .sentinel, .sentinel, .sentinel, .sentinel, .sentinel, .sentinel, .sentinel, .data], laidTests := true, laidLooks := .later }
def SynBackCardSaid : Prop := Claim7.holds Tryz.pinned (.plain (OpenSpec.ofChange synBackSpec)) synBackCard

/-- THE TIED CARD OF 'gristmilllaw5.SynOwn'. -/
def synOwnCard : Claim7 := { stood := { row := synOwnRow, standIns := [], harness := (true, "120fe64d46065e8d4d91a5315c6a5785c5b5e4dbf7944eccddd05e355ea09fd7"), looks := true }, kinds := [], alts := [], laidByText := true, laidKinds := [.data, .data, .data, .handle, .sentinel, .sentinel, .sentinel, .sentinel, .sentinel, .sentinel, .sentinel, .sentinel, .sentinel, .data], laidTests := true, laidLooks := .later }
def SynOwnCardSaid : Prop := Claim7.holds Tryz.pinned (.plain (OpenSpec.ofChange synOwnSpec)) synOwnCard

/-- THE TIED CARD OF 'gristmilllaw5.SynLimits'. -/
def synLimitsCard : Claim7 := { stood := { row := synLimitsRow, standIns := [], harness := (true, "120fe64d46065e8d4d91a5315c6a5785c5b5e4dbf7944eccddd05e355ea09fd7"), looks := true }, kinds := [], alts := [], laidByText := true, laidKinds := [.data, .data, .data, .handle, .sentinel, .sentinel, .sentinel, .sentinel, .sentinel, .sentinel, .sentinel, .sentinel, .sentinel, .sentinel, .sentinel, .sentinel, .sentinel, .sentinel, .sentinel, .sentinel, .sentinel, .sentinel, .sentinel, .sentinel, .data], laidTests := true, laidLooks := .later }
def SynLimitsCardSaid : Prop := Claim7.holds Tryz.pinned (.plain (OpenSpec.ofChange synLimitsSpec)) synLimitsCard

/-- THE TIED CARD OF 'gristmilllaw5.SynDeep'. -/
def synDeepCard : Claim7 := { stood := { row := synDeepRow, standIns := [], harness := (true, "120fe64d46065e8d4d91a5315c6a5785c5b5e4dbf7944eccddd05e355ea09fd7"), looks := true }, kinds := [], alts := [], laidByText := true, laidKinds := [.data, .data, .data, .handle, .sentinel, .sentinel, .sentinel, .sentinel, .sentinel, .sentinel, .sentinel, .sentinel, .sentinel, .sentinel, .sentinel, .sentinel, .sentinel, .sentinel, .sentinel, .sentinel, .sentinel, .sentinel, .sentinel, .sentinel, .data], laidTests := true, laidLooks := .later }
def SynDeepCardSaid : Prop := Claim7.holds Tryz.pinned (.plain (OpenSpec.ofChange synDeepSpec)) synDeepCard

/-- THE TIED CARD OF 'gristmilllaw5.SynTwo'. -/
def synTwoCard : Claim7 := { stood := { row := synTwoRow, standIns := [], harness := (true, "120fe64d46065e8d4d91a5315c6a5785c5b5e4dbf7944eccddd05e355ea09fd7"), looks := true }, kinds := [], alts := [], laidByText := true, laidKinds := [.data, .data, .data, .handle, .sentinel, .sentinel, .sentinel, .sentinel, .sentinel, .sentinel, .sentinel, .sentinel, .sentinel, .data], laidTests := true, laidLooks := .later }
def SynTwoCardSaid : Prop := Claim7.holds Tryz.pinned (.plain (OpenSpec.ofChange synTwoSpec)) synTwoCard

/-- THE SECOND FORM's CARD OF 'gristmilllaw5.SynSays'. -/
def synSaysUptoCard : Claim7 := { stood := { row := synSaysUptoRow, standIns := [], harness := (true, "120fe64d46065e8d4d91a5315c6a5785c5b5e4dbf7944eccddd05e355ea09fd7"), looks := true }, kinds := [], alts := [], laidByText := true, laidKinds := [.data, .data, .data, .handle, .sentinel, .sentinel, .sentinel, .sentinel, .sentinel, .sentinel, .sentinel, .sentinel, .sentinel, .sentinel, .sentinel, .sentinel, .sentinel, .sentinel, .sentinel, .sentinel, .sentinel, .sentinel, .sentinel, .sentinel, .data], laidTests := true, laidLooks := .later }
def SynSaysUptoCardSaid : Prop := Claim7.holds Tryz.pinned (.plain (OpenSpec.upto synSaysSpec)) synSaysUptoCard

/-- THE SECOND FORM's CARD OF 'gristmilllaw5.SynBack'. -/
def synBackUptoCard : Claim7 := { stood := { row := synBackUptoRow, standIns := [], harness := (true, "120fe64d46065e8d4d91a5315c6a5785c5b5e4dbf7944eccddd05e355ea09fd7"), looks := true }, kinds := [], alts := [], laidByText := true, laidKinds := [.data, .data, .data, .handle, .sentinel, .sentinel, .sentinel, .sentinel, .sentinel, .sentinel, .sentinel, .sentinel, .sentinel, .data], laidTests := true, laidLooks := .later }
def SynBackUptoCardSaid : Prop := Claim7.holds Tryz.pinned (.plain (OpenSpec.upto synBackSpec)) synBackUptoCard

/-- THE SECOND FORM's CARD OF 'gristmilllaw5.SynOwn'. -/
def synOwnUptoCard : Claim7 := { stood := { row := synOwnUptoRow, standIns := [], harness := (true, "120fe64d46065e8d4d91a5315c6a5785c5b5e4dbf7944eccddd05e355ea09fd7"), looks := true }, kinds := [], alts := [], laidByText := true, laidKinds := [.data, .data, .data, .handle, .sentinel, .sentinel, .sentinel, .sentinel, .sentinel, .sentinel, .sentinel, .sentinel, .sentinel, .data], laidTests := true, laidLooks := .later }
def SynOwnUptoCardSaid : Prop := Claim7.holds Tryz.pinned (.plain (OpenSpec.upto synOwnSpec)) synOwnUptoCard

/-- THE SECOND FORM's CARD OF 'gristmilllaw5.SynLimits'. -/
def synLimitsUptoCard : Claim7 := { stood := { row := synLimitsUptoRow, standIns := [], harness := (true, "120fe64d46065e8d4d91a5315c6a5785c5b5e4dbf7944eccddd05e355ea09fd7"), looks := true }, kinds := [], alts := [], laidByText := true, laidKinds := [.data, .data, .data, .handle, .sentinel, .sentinel, .sentinel, .sentinel, .sentinel, .sentinel, .sentinel, .sentinel, .sentinel, .sentinel, .sentinel, .sentinel, .sentinel, .sentinel, .sentinel, .sentinel, .sentinel, .sentinel, .sentinel, .sentinel, .data], laidTests := true, laidLooks := .later }
def SynLimitsUptoCardSaid : Prop := Claim7.holds Tryz.pinned (.plain (OpenSpec.upto synLimitsSpec)) synLimitsUptoCard

/-- THE SECOND FORM's CARD OF 'gristmilllaw5.SynDeep'. -/
def synDeepUptoCard : Claim7 := { stood := { row := synDeepUptoRow, standIns := [], harness := (true, "120fe64d46065e8d4d91a5315c6a5785c5b5e4dbf7944eccddd05e355ea09fd7"), looks := true }, kinds := [], alts := [], laidByText := true, laidKinds := [.data, .data, .data, .handle, .sentinel, .sentinel, .sentinel, .sentinel, .sentinel, .sentinel, .sentinel, .sentinel, .sentinel, .sentinel, .sentinel, .sentinel, .sentinel, .sentinel, .sentinel, .sentinel, .sentinel, .sentinel, .sentinel, .sentinel, .data], laidTests := true, laidLooks := .later }
def SynDeepUptoCardSaid : Prop := Claim7.holds Tryz.pinned (.plain (OpenSpec.upto synDeepSpec)) synDeepUptoCard

/-- THE SECOND FORM's CARD OF 'gristmilllaw5.SynTwo'. -/
def synTwoUptoCard : Claim7 := { stood := { row := synTwoUptoRow, standIns := [], harness := (true, "120fe64d46065e8d4d91a5315c6a5785c5b5e4dbf7944eccddd05e355ea09fd7"), looks := true }, kinds := [], alts := [], laidByText := true, laidKinds := [.data, .data, .data, .handle, .sentinel, .sentinel, .sentinel, .sentinel, .sentinel, .sentinel, .sentinel, .sentinel, .sentinel, .data], laidTests := true, laidLooks := .later }
def SynTwoUptoCardSaid : Prop := Claim7.holds Tryz.pinned (.plain (OpenSpec.upto synTwoSpec)) synTwoUptoCard
end Rows
end Go.Proofs.YtcnihampedieaaaGreatDoor
