/- MeanLazy: closed facts of its row. Conditions: none of its own. -/
import Derived.Test.YtogemcnajcaeoaaGreatDoorTie
import Derived.Test.YtogemcnajcaeoaaGreatDoorCards
import Derived.SevenTiedAt
import Derived.JoinedOf
import Derived.LaidLaws
import Derived.LaidMore
import Derived.LaidHandle
import Derived.LaidSub
import Derived.RowKit
import Derived.ProofKit
import Derived.Stop.Joined
namespace Go.Proofs.YtogemcnajcaeoaaGreatDoor
open Go Go.ChangeShapes Go.WideShapes Go.ChangeAt Go.WideMaps Go.WideElems Go.RowKit
theorem meanLazy_closed : joinedFacts Tryz.prog 3 Tryz.f3 Rows.meanLazySpec Rows.meanLazyRow = true := by kernel_rfl
theorem meanLazy_named : Tryz.prog.funcNamed "gristmill/gristmilllaw12.MeanLazy" = some 3 := by kernel_rfl
theorem meanLazy_inst : Tryz.f3.isInstance Tryz.prog Rows.meanLazyRow.origin Rows.meanLazyRow.targs := of_decide_eq_true (by kernel_rfl)

end Go.Proofs.YtogemcnajcaeoaaGreatDoor
