/- GrinOwn: closed facts of its row. Conditions: none of its own. -/
import Derived.Test.YtoidogfnjpmceaaDoorTie
import Derived.Test.YtoidogfnjpmceaaDoorCards
import Derived.SevenTiedAt
import Derived.JoinedOf
import Derived.LaidLaws
import Derived.LaidMore
import Derived.LaidHandle
import Derived.LaidSub
import Derived.RowKit
import Derived.ProofKit
import Derived.Stop.Joined
namespace Go.Proofs.YtoidogfnjpmceaaDoor
open Go Go.ChangeShapes Go.WideShapes Go.ChangeAt Go.WideMaps Go.WideElems Go.RowKit
theorem grinOwn_closed : joinedFacts Tryd.prog 4 Tryd.f4 Rows.grinOwnSpec Rows.grinOwnRow = true := by kernel_rfl
theorem grinOwn_named : Tryd.prog.funcNamed "gristmill/gristmilllaw15.GrinOwn" = some 4 := by kernel_rfl
theorem grinOwn_inst : Tryd.f4.isInstance Tryd.prog Rows.grinOwnRow.origin Rows.grinOwnRow.targs := of_decide_eq_true (by kernel_rfl)

end Go.Proofs.YtoidogfnjpmceaaDoor
