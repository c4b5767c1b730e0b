/- ScopeShadows: closed facts of its row. Conditions: none of its own. -/
import Derived.Test.YtknljgjjaifjhaaGreatDoorTie
import Derived.Test.YtknljgjjaifjhaaGreatDoorCards
import Derived.SevenTiedAt
import Derived.JoinedOf
import Derived.LaidLaws
import Derived.LaidMore
import Derived.LaidHandle
import Derived.LaidSub
import Derived.RowKit
import Derived.ProofKit
import Derived.Stop.Joined
namespace Go.Proofs.YtknljgjjaifjhaaGreatDoor
open Go Go.ChangeShapes Go.WideShapes Go.ChangeAt Go.WideMaps Go.WideElems Go.RowKit
theorem scopeShadows_closed : joinedFacts Tryz.prog 4 Tryz.f4 Rows.scopeShadowsSpec Rows.scopeShadowsRow = true := by kernel_rfl
theorem scopeShadows_named : Tryz.prog.funcNamed "gristmill/gristmilllaw6.ScopeShadows" = some 4 := by kernel_rfl
theorem scopeShadows_inst : Tryz.f4.isInstance Tryz.prog Rows.scopeShadowsRow.origin Rows.scopeShadowsRow.targs := of_decide_eq_true (by kernel_rfl)

end Go.Proofs.YtknljgjjaifjhaaGreatDoor
