/- ObsDeep: closed facts of its row. Conditions: none of its own. -/
import Derived.Test.YtibofjdnkldddaaGreatDoorTie
import Derived.Test.YtibofjdnkldddaaGreatDoorCards
import Derived.SevenTiedAt
import Derived.JoinedOf
import Derived.LaidLaws
import Derived.LaidMore
import Derived.LaidHandle
import Derived.LaidSub
import Derived.RowKit
import Derived.ProofKit
import Derived.Stop.Joined
import Derived.Lay
import Derived.LaidOnce
namespace Go.Proofs.YtibofjdnkldddaaGreatDoor
open Go Go.ChangeShapes Go.WideShapes Go.ChangeAt Go.WideMaps Go.WideElems Go.RowKit
theorem obsDeep_closed : joinedFacts Tryz.prog 3 Tryz.f3 Rows.obsDeepSpec Rows.obsDeepRow = true := by kernel_rfl
theorem obsDeep_named : Tryz.prog.funcNamed "gristmill/gristmilllaw11.ObsDeep" = some 3 := by kernel_rfl
theorem obsDeep_inst : Tryz.f3.isInstance Tryz.prog Rows.obsDeepRow.origin Rows.obsDeepRow.targs := of_decide_eq_true (by kernel_rfl)

end Go.Proofs.YtibofjdnkldddaaGreatDoor
