/- SynLimits: closed facts of its row. Conditions: none of its own. -/
import Derived.Test.YtcnihampedieaaaGreatDoorTie
import Derived.Test.YtcnihampedieaaaGreatDoorCards
import Derived.SevenTiedAt
import Derived.JoinedOf
import Derived.LaidLaws
import Derived.LaidMore
import Derived.LaidHandle
import Derived.LaidSub
import Derived.RowKit
import Derived.ProofKit
import Derived.Stop.Joined
namespace Go.Proofs.YtcnihampedieaaaGreatDoor
open Go Go.ChangeShapes Go.WideShapes Go.ChangeAt Go.WideMaps Go.WideElems Go.RowKit
theorem synLimits_closed : joinedFacts Tryz.prog 6 Tryz.f6 Rows.synLimitsSpec Rows.synLimitsRow = true := by kernel_rfl
theorem synLimits_named : Tryz.prog.funcNamed "gristmill/gristmilllaw5.SynLimits" = some 6 := by kernel_rfl
theorem synLimits_inst : Tryz.f6.isInstance Tryz.prog Rows.synLimitsRow.origin Rows.synLimitsRow.targs := of_decide_eq_true (by kernel_rfl)

end Go.Proofs.YtcnihampedieaaaGreatDoor
