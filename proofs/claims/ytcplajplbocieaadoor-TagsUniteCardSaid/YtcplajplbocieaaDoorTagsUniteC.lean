/- TagsUnite: closed facts of its row. Conditions: none of its own. -/
import Derived.Test.YtcplajplbocieaaDoorTie
import Derived.Test.YtcplajplbocieaaDoorCards
import Derived.SevenTiedAt
import Derived.JoinedOf
import Derived.LaidLaws
import Derived.LaidMore
import Derived.LaidHandle
import Derived.LaidSub
import Derived.RowKit
import Derived.ProofKit
import Derived.Stop.Joined
namespace Go.Proofs.YtcplajplbocieaaDoor
open Go Go.ChangeShapes Go.WideShapes Go.ChangeAt Go.WideMaps Go.WideElems Go.RowKit
theorem tagsUnite_closed : joinedFacts Tryd.prog 5 Tryd.f5 Rows.tagsUniteSpec Rows.tagsUniteRow = true := by kernel_rfl
theorem tagsUnite_named : Tryd.prog.funcNamed "gristmill/gristmilllaw14.TagsUnite" = some 5 := by kernel_rfl
theorem tagsUnite_inst : Tryd.f5.isInstance Tryd.prog Rows.tagsUniteRow.origin Rows.tagsUniteRow.targs := of_decide_eq_true (by kernel_rfl)

end Go.Proofs.YtcplajplbocieaaDoor
