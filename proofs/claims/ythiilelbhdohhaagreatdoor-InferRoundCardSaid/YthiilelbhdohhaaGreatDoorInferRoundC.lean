/- InferRound: closed facts of its row. Conditions: none of its own. -/
import Derived.Test.YthiilelbhdohhaaGreatDoorTie
import Derived.Test.YthiilelbhdohhaaGreatDoorCards
import Derived.SevenTiedAt
import Derived.JoinedOf
import Derived.LaidLaws
import Derived.LaidMore
import Derived.LaidHandle
import Derived.LaidSub
import Derived.RowKit
import Derived.ProofKit
import Derived.Stop.Joined
namespace Go.Proofs.YthiilelbhdohhaaGreatDoor
open Go Go.ChangeShapes Go.WideShapes Go.ChangeAt Go.WideMaps Go.WideElems Go.RowKit
theorem inferRound_closed : joinedFacts Tryz.prog 3 Tryz.f3 Rows.inferRoundSpec Rows.inferRoundRow = true := by kernel_rfl
theorem inferRound_named : Tryz.prog.funcNamed "gristmill/gristmilllaw9.InferRound" = some 3 := by kernel_rfl
theorem inferRound_inst : Tryz.f3.isInstance Tryz.prog Rows.inferRoundRow.origin Rows.inferRoundRow.targs := of_decide_eq_true (by kernel_rfl)

end Go.Proofs.YthiilelbhdohhaaGreatDoor
