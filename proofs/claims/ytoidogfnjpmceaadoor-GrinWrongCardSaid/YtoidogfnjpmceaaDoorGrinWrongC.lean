/- GrinWrong: closed facts of its row. Conditions: none of its own. -/
import Derived.Test.YtoidogfnjpmceaaDoorTie
import Derived.Test.YtoidogfnjpmceaaDoorCards
import Derived.SevenTiedAt
import Derived.JoinedOf
import Derived.LaidLaws
import Derived.LaidMore
import Derived.LaidHandle
import Derived.LaidSub
import Derived.RowKit
import Derived.ProofKit
import Derived.Stop.Joined
namespace Go.Proofs.YtoidogfnjpmceaaDoor
open Go Go.ChangeShapes Go.WideShapes Go.ChangeAt Go.WideMaps Go.WideElems Go.RowKit
theorem grinWrong_closed : joinedFacts Tryd.prog 3 Tryd.f3 Rows.grinWrongSpec Rows.grinWrongRow = true := by kernel_rfl
theorem grinWrong_named : Tryd.prog.funcNamed "gristmill/gristmilllaw15.GrinWrong" = some 3 := by kernel_rfl
theorem grinWrong_inst : Tryd.f3.isInstance Tryd.prog Rows.grinWrongRow.origin Rows.grinWrongRow.targs := of_decide_eq_true (by kernel_rfl)

end Go.Proofs.YtoidogfnjpmceaaDoor
