/- MeanOrder: closed facts of its row. Conditions: none of its own. -/
import Derived.Test.YtogemcnajcaeoaaGreatDoorTie
import Derived.Test.YtogemcnajcaeoaaGreatDoorCards
import Derived.SevenTiedAt
import Derived.JoinedOf
import Derived.LaidLaws
import Derived.LaidMore
import Derived.LaidHandle
import Derived.LaidSub
import Derived.RowKit
import Derived.ProofKit
import Derived.Stop.Joined
namespace Go.Proofs.YtogemcnajcaeoaaGreatDoor
open Go Go.ChangeShapes Go.WideShapes Go.ChangeAt Go.WideMaps Go.WideElems Go.RowKit
theorem meanOrder_closed : joinedFacts Tryz.prog 5 Tryz.f5 Rows.meanOrderSpec Rows.meanOrderRow = true := by kernel_rfl
theorem meanOrder_named : Tryz.prog.funcNamed "gristmill/gristmilllaw12.MeanOrder" = some 5 := by kernel_rfl
theorem meanOrder_inst : Tryz.f5.isInstance Tryz.prog Rows.meanOrderRow.origin Rows.meanOrderRow.targs := of_decide_eq_true (by kernel_rfl)

end Go.Proofs.YtogemcnajcaeoaaGreatDoor
