/- MeanLists: closed facts of its row. Conditions: none of its own. -/
import Derived.Test.YtogemcnajcaeoaaGreatDoorTie
import Derived.Test.YtogemcnajcaeoaaGreatDoorCards
import Derived.SevenTiedAt
import Derived.JoinedOf
import Derived.LaidLaws
import Derived.LaidMore
import Derived.LaidHandle
import Derived.LaidSub
import Derived.RowKit
import Derived.ProofKit
import Derived.Stop.Joined
namespace Go.Proofs.YtogemcnajcaeoaaGreatDoor
open Go Go.ChangeShapes Go.WideShapes Go.ChangeAt Go.WideMaps Go.WideElems Go.RowKit
theorem meanLists_closed : joinedFacts Tryz.prog 4 Tryz.f4 Rows.meanListsSpec Rows.meanListsRow = true := by kernel_rfl
theorem meanLists_named : Tryz.prog.funcNamed "gristmill/gristmilllaw12.MeanLists" = some 4 := by kernel_rfl
theorem meanLists_inst : Tryz.f4.isInstance Tryz.prog Rows.meanListsRow.origin Rows.meanListsRow.targs := of_decide_eq_true (by kernel_rfl)

end Go.Proofs.YtogemcnajcaeoaaGreatDoor
