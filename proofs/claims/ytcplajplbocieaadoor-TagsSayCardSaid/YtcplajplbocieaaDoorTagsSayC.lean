/- TagsSay: closed facts of its row. Conditions: none of its own. -/
import Derived.Test.YtcplajplbocieaaDoorTie
import Derived.Test.YtcplajplbocieaaDoorCards
import Derived.SevenTiedAt
import Derived.JoinedOf
import Derived.LaidLaws
import Derived.LaidMore
import Derived.LaidHandle
import Derived.LaidSub
import Derived.RowKit
import Derived.ProofKit
import Derived.Stop.Joined
namespace Go.Proofs.YtcplajplbocieaaDoor
open Go Go.ChangeShapes Go.WideShapes Go.ChangeAt Go.WideMaps Go.WideElems Go.RowKit
theorem tagsSay_closed : joinedFacts Tryd.prog 3 Tryd.f3 Rows.tagsSaySpec Rows.tagsSayRow = true := by kernel_rfl
theorem tagsSay_named : Tryd.prog.funcNamed "gristmill/gristmilllaw14.TagsSay" = some 3 := by kernel_rfl
theorem tagsSay_inst : Tryd.f3.isInstance Tryd.prog Rows.tagsSayRow.origin Rows.tagsSayRow.targs := of_decide_eq_true (by kernel_rfl)

end Go.Proofs.YtcplajplbocieaaDoor
