/- DepsHides: closed facts of its row. Conditions: none of its own. -/
import Derived.Test.YtaoigapdkfjegaaGreatDoorTie
import Derived.Test.YtaoigapdkfjegaaGreatDoorCards
import Derived.SevenTiedAt
import Derived.JoinedOf
import Derived.LaidLaws
import Derived.LaidMore
import Derived.LaidHandle
import Derived.LaidSub
import Derived.RowKit
import Derived.ProofKit
import Derived.Stop.Joined
namespace Go.Proofs.YtaoigapdkfjegaaGreatDoor
open Go Go.ChangeShapes Go.WideShapes Go.ChangeAt Go.WideMaps Go.WideElems Go.RowKit
theorem depsHides_closed : joinedFacts Tryz.prog 4 Tryz.f4 Rows.depsHidesSpec Rows.depsHidesRow = true := by kernel_rfl
theorem depsHides_named : Tryz.prog.funcNamed "gristmill/gristmilllaw7.DepsHides" = some 4 := by kernel_rfl
theorem depsHides_inst : Tryz.f4.isInstance Tryz.prog Rows.depsHidesRow.origin Rows.depsHidesRow.targs := of_decide_eq_true (by kernel_rfl)

end Go.Proofs.YtaoigapdkfjegaaGreatDoor
