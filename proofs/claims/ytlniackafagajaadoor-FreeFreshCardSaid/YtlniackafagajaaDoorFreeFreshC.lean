/- FreeFresh: closed facts of its row. Conditions: none of its own. -/
import Derived.Test.YtlniackafagajaaDoorTie
import Derived.Test.YtlniackafagajaaDoorCards
import Derived.SevenTiedAt
import Derived.JoinedOf
import Derived.LaidLaws
import Derived.LaidMore
import Derived.LaidHandle
import Derived.LaidSub
import Derived.RowKit
import Derived.ProofKit
import Derived.Stop.Joined
namespace Go.Proofs.YtlniackafagajaaDoor
open Go Go.ChangeShapes Go.WideShapes Go.ChangeAt Go.WideMaps Go.WideElems Go.RowKit
theorem freeFresh_closed : joinedFacts Tryd.prog 3 Tryd.f3 Rows.freeFreshSpec Rows.freeFreshRow = true := by kernel_rfl
theorem freeFresh_named : Tryd.prog.funcNamed "gristmill/gristmilllaw10.FreeFresh" = some 3 := by kernel_rfl
theorem freeFresh_inst : Tryd.f3.isInstance Tryd.prog Rows.freeFreshRow.origin Rows.freeFreshRow.targs := of_decide_eq_true (by kernel_rfl)

end Go.Proofs.YtlniackafagajaaDoor
