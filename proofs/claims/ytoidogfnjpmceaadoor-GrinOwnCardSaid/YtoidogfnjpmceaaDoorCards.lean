/-
  DERIVED. GIVEN WITH THE SEED: THE CARDS: each row of YtoidogfnjpmceaaDoorRows.lean that lists a variable, with what it lists TIED to the program's text (the seventh form; the later family's looks); each row that meets fmt, with fmt's text TOLD by the authors' own Lean function (tested against real Go, not proved from fmt's source: count such statements apart). THE CARD IS WHAT COUNTS. Prove the row's statement (the work); the ties are given (YtoidogfnjpmceaaDoorTie.lean); close each card by the builder's one call (the guide's Derived/Test/ToyasCard.lean, 'card_holds'). Laid BY PROGRAM, IN A SANDBOX (cutbox-door.mjs). By AI agents, Wed Nov 11 2026. No macro, syntax, notation, axiom, sorry.
-/
import Derived.Test.YtoidogfnjpmceaaDoorRows
import GoSem.ClaimSeven
namespace Go.Proofs.YtoidogfnjpmceaaDoor
namespace Rows

/-- THE TIED CARD OF 'gristmilllaw15.GrinWrong'. -/
def grinWrongCard : Claim7 := { stood := { row := grinWrongRow, standIns := [], harness := (true, "41fbcc428d56e585cfb279702de588f9212fc0d341dc7b73f83ccf12d26c8cf2"), looks := true }, kinds := [], alts := [], laidByText := true, laidKinds := [.data, .data, .data, .sentinel, .sentinel, .sentinel, .sentinel, .sentinel, .sentinel, .sentinel, .sentinel, .sentinel, .sentinel, .sentinel, .sentinel, .sentinel, .sentinel, .sentinel, .sentinel, .sentinel, .sentinel, .data], laidTests := true, laidLooks := .later }
def GrinWrongCardSaid : Prop := Claim7.holds Tryd.pinned (.plain (OpenSpec.ofChange grinWrongSpec)) grinWrongCard

/-- THE TIED CARD OF 'gristmilllaw15.GrinOwn'. -/
def grinOwnCard : Claim7 := { stood := { row := grinOwnRow, standIns := [], harness := (true, "41fbcc428d56e585cfb279702de588f9212fc0d341dc7b73f83ccf12d26c8cf2"), looks := true }, kinds := [], alts := [], laidByText := true, laidKinds := [.sentinel, .sentinel, .sentinel, .sentinel, .sentinel, .sentinel, .sentinel, .sentinel, .sentinel, .sentinel, .sentinel, .sentinel, .sentinel, .sentinel, .sentinel, .sentinel, .sentinel, .sentinel, .data], laidTests := true, laidLooks := .later }
def GrinOwnCardSaid : Prop := Claim7.holds Tryd.pinned (.plain (OpenSpec.ofChange grinOwnSpec)) grinOwnCard

/-- THE TIED CARD OF 'gristmilllaw15.GrinMore'. -/
def grinMoreCard : Claim7 := { stood := { row := grinMoreRow, standIns := [], harness := (true, "41fbcc428d56e585cfb279702de588f9212fc0d341dc7b73f83ccf12d26c8cf2"), looks := true }, kinds := [], alts := [], laidByText := true, laidKinds := [.sentinel, .sentinel, .sentinel, .sentinel, .sentinel, .sentinel, .sentinel, .sentinel, .sentinel, .sentinel, .sentinel, .sentinel, .sentinel, .sentinel, .sentinel, .sentinel, .sentinel, .sentinel, .data], laidTests := true, laidLooks := .later }
def GrinMoreCardSaid : Prop := Claim7.holds Tryd.pinned (.plain (OpenSpec.ofChange grinMoreSpec)) grinMoreCard

/-- THE TIED CARD OF 'gristmilllaw15.GrinBranches'. -/
def grinBranchesCard : Claim7 := { stood := { row := grinBranchesRow, standIns := [], harness := (true, "41fbcc428d56e585cfb279702de588f9212fc0d341dc7b73f83ccf12d26c8cf2"), looks := true }, kinds := [], alts := [], laidByText := true, laidKinds := [.data, .data, .data, .sentinel, .sentinel, .sentinel, .sentinel, .sentinel, .sentinel, .sentinel, .sentinel, .sentinel, .sentinel, .sentinel, .sentinel, .sentinel, .sentinel, .sentinel, .sentinel, .sentinel, .sentinel, .data], laidTests := true, laidLooks := .later }
def GrinBranchesCardSaid : Prop := Claim7.holds Tryd.pinned (.plain (OpenSpec.ofChange grinBranchesSpec)) grinBranchesCard

/-- THE SECOND FORM's CARD OF 'gristmilllaw15.GrinWrong'. -/
def grinWrongUptoCard : Claim7 := { stood := { row := grinWrongUptoRow, standIns := [], harness := (true, "41fbcc428d56e585cfb279702de588f9212fc0d341dc7b73f83ccf12d26c8cf2"), looks := true }, kinds := [], alts := [], laidByText := true, laidKinds := [.data, .data, .data, .sentinel, .sentinel, .sentinel, .sentinel, .sentinel, .sentinel, .sentinel, .sentinel, .sentinel, .sentinel, .sentinel, .sentinel, .sentinel, .sentinel, .sentinel, .sentinel, .sentinel, .sentinel, .data], laidTests := true, laidLooks := .later }
def GrinWrongUptoCardSaid : Prop := Claim7.holds Tryd.pinned (.plain (OpenSpec.upto grinWrongSpec)) grinWrongUptoCard

/-- THE SECOND FORM's CARD OF 'gristmilllaw15.GrinOwn'. -/
def grinOwnUptoCard : Claim7 := { stood := { row := grinOwnUptoRow, standIns := [], harness := (true, "41fbcc428d56e585cfb279702de588f9212fc0d341dc7b73f83ccf12d26c8cf2"), looks := true }, kinds := [], alts := [], laidByText := true, laidKinds := [.sentinel, .sentinel, .sentinel, .sentinel, .sentinel, .sentinel, .sentinel, .sentinel, .sentinel, .sentinel, .sentinel, .sentinel, .sentinel, .sentinel, .sentinel, .sentinel, .sentinel, .sentinel, .data], laidTests := true, laidLooks := .later }
def GrinOwnUptoCardSaid : Prop := Claim7.holds Tryd.pinned (.plain (OpenSpec.upto grinOwnSpec)) grinOwnUptoCard

/-- THE SECOND FORM's CARD OF 'gristmilllaw15.GrinMore'. -/
def grinMoreUptoCard : Claim7 := { stood := { row := grinMoreUptoRow, standIns := [], harness := (true, "41fbcc428d56e585cfb279702de588f9212fc0d341dc7b73f83ccf12d26c8cf2"), looks := true }, kinds := [], alts := [], laidByText := true, laidKinds := [.sentinel, .sentinel, .sentinel, .sentinel, .sentinel, .sentinel, .sentinel, .sentinel, .sentinel, .sentinel, .sentinel, .sentinel, .sentinel, .sentinel, .sentinel, .sentinel, .sentinel, .sentinel, .data], laidTests := true, laidLooks := .later }
def GrinMoreUptoCardSaid : Prop := Claim7.holds Tryd.pinned (.plain (OpenSpec.upto grinMoreSpec)) grinMoreUptoCard

/-- THE SECOND FORM's CARD OF 'gristmilllaw15.GrinBranches'. -/
def grinBranchesUptoCard : Claim7 := { stood := { row := grinBranchesUptoRow, standIns := [], harness := (true, "41fbcc428d56e585cfb279702de588f9212fc0d341dc7b73f83ccf12d26c8cf2"), looks := true }, kinds := [], alts := [], laidByText := true, laidKinds := [.data, .data, .data, .sentinel, .sentinel, .sentinel, .sentinel, .sentinel, .sentinel, .sentinel, .sentinel, .sentinel, .sentinel, .sentinel, .sentinel, .sentinel, .sentinel, .sentinel, .sentinel, .sentinel, .sentinel, .data], laidTests := true, laidLooks := .later }
def GrinBranchesUptoCardSaid : Prop := Claim7.holds Tryd.pinned (.plain (OpenSpec.upto grinBranchesSpec)) grinBranchesUptoCard
end Rows
end Go.Proofs.YtoidogfnjpmceaaDoor
