/- MeanParts: closed facts of its row. Conditions: none of its own. -/
import Derived.Test.YtogemcnajcaeoaaGreatDoorTie
import Derived.Test.YtogemcnajcaeoaaGreatDoorCards
import Derived.SevenTiedAt
import Derived.JoinedOf
import Derived.LaidLaws
import Derived.LaidMore
import Derived.LaidHandle
import Derived.LaidSub
import Derived.RowKit
import Derived.ProofKit
import Derived.Stop.Joined
namespace Go.Proofs.YtogemcnajcaeoaaGreatDoor
open Go Go.ChangeShapes Go.WideShapes Go.ChangeAt Go.WideMaps Go.WideElems Go.RowKit
theorem meanParts_closed : joinedFacts Tryz.prog 6 Tryz.f6 Rows.meanPartsSpec Rows.meanPartsRow = true := by kernel_rfl
theorem meanParts_named : Tryz.prog.funcNamed "gristmill/gristmilllaw12.MeanParts" = some 6 := by kernel_rfl
theorem meanParts_inst : Tryz.f6.isInstance Tryz.prog Rows.meanPartsRow.origin Rows.meanPartsRow.targs := of_decide_eq_true (by kernel_rfl)

end Go.Proofs.YtogemcnajcaeoaaGreatDoor
