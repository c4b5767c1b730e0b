/- GrinBranches: closed facts of its row. Conditions: none of its own. -/
import Derived.Test.YtoidogfnjpmceaaDoorTie
import Derived.Test.YtoidogfnjpmceaaDoorCards
import Derived.SevenTiedAt
import Derived.JoinedOf
import Derived.LaidLaws
import Derived.LaidMore
import Derived.LaidHandle
import Derived.LaidSub
import Derived.RowKit
import Derived.ProofKit
import Derived.Stop.Joined
namespace Go.Proofs.YtoidogfnjpmceaaDoor
open Go Go.ChangeShapes Go.WideShapes Go.ChangeAt Go.WideMaps Go.WideElems Go.RowKit
theorem grinBranches_closed : joinedFacts Tryd.prog 6 Tryd.f6 Rows.grinBranchesSpec Rows.grinBranchesRow = true := by kernel_rfl
theorem grinBranches_named : Tryd.prog.funcNamed "gristmill/gristmilllaw15.GrinBranches" = some 6 := by kernel_rfl
theorem grinBranches_inst : Tryd.f6.isInstance Tryd.prog Rows.grinBranchesRow.origin Rows.grinBranchesRow.targs := of_decide_eq_true (by kernel_rfl)

end Go.Proofs.YtoidogfnjpmceaaDoor
