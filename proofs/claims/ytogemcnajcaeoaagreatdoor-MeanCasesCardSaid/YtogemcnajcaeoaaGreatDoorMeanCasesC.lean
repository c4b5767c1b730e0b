/- MeanCases: closed facts of its row. Conditions: none of its own. -/
import Derived.Test.YtogemcnajcaeoaaGreatDoorTie
import Derived.Test.YtogemcnajcaeoaaGreatDoorCards
import Derived.SevenTiedAt
import Derived.JoinedOf
import Derived.LaidLaws
import Derived.LaidMore
import Derived.LaidHandle
import Derived.LaidSub
import Derived.RowKit
import Derived.ProofKit
import Derived.Stop.Joined
namespace Go.Proofs.YtogemcnajcaeoaaGreatDoor
open Go Go.ChangeShapes Go.WideShapes Go.ChangeAt Go.WideMaps Go.WideElems Go.RowKit
theorem meanCases_closed : joinedFacts Tryz.prog 7 Tryz.f7 Rows.meanCasesSpec Rows.meanCasesRow = true := by kernel_rfl
theorem meanCases_named : Tryz.prog.funcNamed "gristmill/gristmilllaw12.MeanCases" = some 7 := by kernel_rfl
theorem meanCases_inst : Tryz.f7.isInstance Tryz.prog Rows.meanCasesRow.origin Rows.meanCasesRow.targs := of_decide_eq_true (by kernel_rfl)

end Go.Proofs.YtogemcnajcaeoaaGreatDoor
