/- SynOwn: closed facts of its row. Conditions: none of its own. -/
import Derived.Test.YtledjcplbldokaaGreatDoorTie
import Derived.Test.YtledjcplbldokaaGreatDoorCards
import Derived.SevenTiedAt
import Derived.JoinedOf
import Derived.LaidLaws
import Derived.LaidMore
import Derived.LaidHandle
import Derived.LaidSub
import Derived.RowKit
import Derived.ProofKit
import Derived.Stop.Joined
namespace Go.Proofs.YtledjcplbldokaaGreatDoor
open Go Go.ChangeShapes Go.WideShapes Go.ChangeAt Go.WideMaps Go.WideElems Go.RowKit
theorem synOwn_closed : joinedFacts Tryz.prog 3 Tryz.f3 Rows.synOwnSpec Rows.synOwnRow = true := by kernel_rfl
theorem synOwn_named : Tryz.prog.funcNamed "gristmill/gristmilllaw5.SynOwn" = some 3 := by kernel_rfl
theorem synOwn_inst : Tryz.f3.isInstance Tryz.prog Rows.synOwnRow.origin Rows.synOwnRow.targs := of_decide_eq_true (by kernel_rfl)

end Go.Proofs.YtledjcplbldokaaGreatDoor
