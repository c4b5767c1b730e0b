/- LiftFlat: closed facts of its row. Conditions: none of its own. -/
import Derived.Test.YtkfoohhnfaohfaaGreatDoorTie
import Derived.Test.YtkfoohhnfaohfaaGreatDoorCards
import Derived.SevenTiedAt
import Derived.JoinedOf
import Derived.LaidLaws
import Derived.LaidMore
import Derived.LaidHandle
import Derived.LaidSub
import Derived.RowKit
import Derived.ProofKit
import Derived.Stop.Joined
namespace Go.Proofs.YtkfoohhnfaohfaaGreatDoor
open Go Go.ChangeShapes Go.WideShapes Go.ChangeAt Go.WideMaps Go.WideElems Go.RowKit
theorem liftFlat_closed : joinedFacts Tryz.prog 3 Tryz.f3 Rows.liftFlatSpec Rows.liftFlatRow = true := by kernel_rfl
theorem liftFlat_named : Tryz.prog.funcNamed "gristmill/gristmilllaw13.LiftFlat" = some 3 := by kernel_rfl
theorem liftFlat_inst : Tryz.f3.isInstance Tryz.prog Rows.liftFlatRow.origin Rows.liftFlatRow.targs := of_decide_eq_true (by kernel_rfl)

end Go.Proofs.YtkfoohhnfaohfaaGreatDoor
