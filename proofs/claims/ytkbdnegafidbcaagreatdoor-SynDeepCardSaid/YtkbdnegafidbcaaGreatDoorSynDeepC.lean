/- SynDeep: closed facts of its row. Conditions: none of its own. -/
import Derived.Test.YtkbdnegafidbcaaGreatDoorTie
import Derived.Test.YtkbdnegafidbcaaGreatDoorCards
import Derived.SevenTiedAt
import Derived.JoinedOf
import Derived.LaidLaws
import Derived.LaidMore
import Derived.LaidHandle
import Derived.LaidSub
import Derived.RowKit
import Derived.ProofKit
import Derived.Stop.Joined
namespace Go.Proofs.YtkbdnegafidbcaaGreatDoor
open Go Go.ChangeShapes Go.WideShapes Go.ChangeAt Go.WideMaps Go.WideElems Go.RowKit
theorem synDeep_closed : joinedFacts Tryz.prog 3 Tryz.f3 Rows.synDeepSpec Rows.synDeepRow = true := by kernel_rfl
theorem synDeep_named : Tryz.prog.funcNamed "gristmill/gristmilllaw5.SynDeep" = some 3 := by kernel_rfl
theorem synDeep_inst : Tryz.f3.isInstance Tryz.prog Rows.synDeepRow.origin Rows.synDeepRow.targs := of_decide_eq_true (by kernel_rfl)

end Go.Proofs.YtkbdnegafidbcaaGreatDoor
