/- InferGeneral: closed facts of its row. Conditions: none of its own. -/
import Derived.Test.YtnbalhonhfiljaaGreatDoorTie
import Derived.Test.YtnbalhonhfiljaaGreatDoorCards
import Derived.SevenTiedAt
import Derived.JoinedOf
import Derived.LaidLaws
import Derived.LaidMore
import Derived.LaidHandle
import Derived.LaidSub
import Derived.RowKit
import Derived.ProofKit
import Derived.Stop.Joined
namespace Go.Proofs.YtnbalhonhfiljaaGreatDoor
open Go Go.ChangeShapes Go.WideShapes Go.ChangeAt Go.WideMaps Go.WideElems Go.RowKit
theorem inferGeneral_closed : joinedFacts Tryz.prog 3 Tryz.f3 Rows.inferGeneralSpec Rows.inferGeneralRow = true := by kernel_rfl
theorem inferGeneral_named : Tryz.prog.funcNamed "gristmill/gristmilllaw9.InferGeneral" = some 3 := by kernel_rfl
theorem inferGeneral_inst : Tryz.f3.isInstance Tryz.prog Rows.inferGeneralRow.origin Rows.inferGeneralRow.targs := of_decide_eq_true (by kernel_rfl)

end Go.Proofs.YtnbalhonhfiljaaGreatDoor
