/- InferWrong: closed facts of its row. Conditions: none of its own. -/
import Derived.Test.YtnbalhonhfiljaaGreatDoorTie
import Derived.Test.YtnbalhonhfiljaaGreatDoorCards
import Derived.SevenTiedAt
import Derived.JoinedOf
import Derived.LaidLaws
import Derived.LaidMore
import Derived.LaidHandle
import Derived.LaidSub
import Derived.RowKit
import Derived.ProofKit
import Derived.Stop.Joined
namespace Go.Proofs.YtnbalhonhfiljaaGreatDoor
open Go Go.ChangeShapes Go.WideShapes Go.ChangeAt Go.WideMaps Go.WideElems Go.RowKit
theorem inferWrong_closed : joinedFacts Tryz.prog 5 Tryz.f5 Rows.inferWrongSpec Rows.inferWrongRow = true := by kernel_rfl
theorem inferWrong_named : Tryz.prog.funcNamed "gristmill/gristmilllaw9.InferWrong" = some 5 := by kernel_rfl
theorem inferWrong_inst : Tryz.f5.isInstance Tryz.prog Rows.inferWrongRow.origin Rows.inferWrongRow.targs := of_decide_eq_true (by kernel_rfl)

end Go.Proofs.YtnbalhonhfiljaaGreatDoor
