/- DepsChains: closed facts of its row. Conditions: none of its own. -/
import Derived.Test.YtaoigapdkfjegaaGreatDoorTie
import Derived.Test.YtaoigapdkfjegaaGreatDoorCards
import Derived.SevenTiedAt
import Derived.JoinedOf
import Derived.LaidLaws
import Derived.LaidMore
import Derived.LaidHandle
import Derived.LaidSub
import Derived.RowKit
import Derived.ProofKit
import Derived.Stop.Joined
namespace Go.Proofs.YtaoigapdkfjegaaGreatDoor
open Go Go.ChangeShapes Go.WideShapes Go.ChangeAt Go.WideMaps Go.WideElems Go.RowKit
theorem depsChains_closed : joinedFacts Tryz.prog 3 Tryz.f3 Rows.depsChainsSpec Rows.depsChainsRow = true := by kernel_rfl
theorem depsChains_named : Tryz.prog.funcNamed "gristmill/gristmilllaw7.DepsChains" = some 3 := by kernel_rfl
theorem depsChains_inst : Tryz.f3.isInstance Tryz.prog Rows.depsChainsRow.origin Rows.depsChainsRow.targs := of_decide_eq_true (by kernel_rfl)

end Go.Proofs.YtaoigapdkfjegaaGreatDoor
