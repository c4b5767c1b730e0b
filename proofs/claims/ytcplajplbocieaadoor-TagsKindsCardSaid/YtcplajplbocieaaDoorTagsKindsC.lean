/- TagsKinds: closed facts of its row. Conditions: none of its own. -/
import Derived.Test.YtcplajplbocieaaDoorTie
import Derived.Test.YtcplajplbocieaaDoorCards
import Derived.SevenTiedAt
import Derived.JoinedOf
import Derived.LaidLaws
import Derived.LaidMore
import Derived.LaidHandle
import Derived.LaidSub
import Derived.RowKit
import Derived.ProofKit
import Derived.Stop.Joined
namespace Go.Proofs.YtcplajplbocieaaDoor
open Go Go.ChangeShapes Go.WideShapes Go.ChangeAt Go.WideMaps Go.WideElems Go.RowKit
theorem tagsKinds_closed : joinedFacts Tryd.prog 6 Tryd.f6 Rows.tagsKindsSpec Rows.tagsKindsRow = true := by kernel_rfl
theorem tagsKinds_named : Tryd.prog.funcNamed "gristmill/gristmilllaw14.TagsKinds" = some 6 := by kernel_rfl
theorem tagsKinds_inst : Tryd.f6.isInstance Tryd.prog Rows.tagsKindsRow.origin Rows.tagsKindsRow.targs := of_decide_eq_true (by kernel_rfl)

end Go.Proofs.YtcplajplbocieaaDoor
