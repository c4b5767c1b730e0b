/- TagsOrder: closed facts of its row. Conditions: none of its own. -/
import Derived.Test.YtcplajplbocieaaDoorTie
import Derived.Test.YtcplajplbocieaaDoorCards
import Derived.SevenTiedAt
import Derived.JoinedOf
import Derived.LaidLaws
import Derived.LaidMore
import Derived.LaidHandle
import Derived.LaidSub
import Derived.RowKit
import Derived.ProofKit
import Derived.Stop.Joined
namespace Go.Proofs.YtcplajplbocieaaDoor
open Go Go.ChangeShapes Go.WideShapes Go.ChangeAt Go.WideMaps Go.WideElems Go.RowKit
theorem tagsOrder_closed : joinedFacts Tryd.prog 4 Tryd.f4 Rows.tagsOrderSpec Rows.tagsOrderRow = true := by kernel_rfl
theorem tagsOrder_named : Tryd.prog.funcNamed "gristmill/gristmilllaw14.TagsOrder" = some 4 := by kernel_rfl
theorem tagsOrder_inst : Tryd.f4.isInstance Tryd.prog Rows.tagsOrderRow.origin Rows.tagsOrderRow.targs := of_decide_eq_true (by kernel_rfl)

end Go.Proofs.YtcplajplbocieaaDoor
