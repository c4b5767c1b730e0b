/- LiftNests: closed facts of its row. Conditions: none of its own. -/
import Derived.Test.YtgpiepdkcpkokaaGreatDoorTie
import Derived.Test.YtgpiepdkcpkokaaGreatDoorCards
import Derived.SevenTiedAt
import Derived.JoinedOf
import Derived.LaidLaws
import Derived.LaidMore
import Derived.LaidHandle
import Derived.LaidSub
import Derived.RowKit
import Derived.ProofKit
import Derived.Stop.Joined
namespace Go.Proofs.YtgpiepdkcpkokaaGreatDoor
open Go Go.ChangeShapes Go.WideShapes Go.ChangeAt Go.WideMaps Go.WideElems Go.RowKit
theorem liftNests_closed : joinedFacts Tryz.prog 3 Tryz.f3 Rows.liftNestsSpec Rows.liftNestsRow = true := by kernel_rfl
theorem liftNests_named : Tryz.prog.funcNamed "gristmill/gristmilllaw13.LiftNests" = some 3 := by kernel_rfl
theorem liftNests_inst : Tryz.f3.isInstance Tryz.prog Rows.liftNestsRow.origin Rows.liftNestsRow.targs := of_decide_eq_true (by kernel_rfl)

end Go.Proofs.YtgpiepdkcpkokaaGreatDoor
