/- ScopeWrong: closed facts of its row. Conditions: none of its own. -/
import Derived.Test.YtknljgjjaifjhaaGreatDoorTie
import Derived.Test.YtknljgjjaifjhaaGreatDoorCards
import Derived.SevenTiedAt
import Derived.JoinedOf
import Derived.LaidLaws
import Derived.LaidMore
import Derived.LaidHandle
import Derived.LaidSub
import Derived.RowKit
import Derived.ProofKit
import Derived.Stop.Joined
namespace Go.Proofs.YtknljgjjaifjhaaGreatDoor
open Go Go.ChangeShapes Go.WideShapes Go.ChangeAt Go.WideMaps Go.WideElems Go.RowKit
theorem scopeWrong_closed : joinedFacts Tryz.prog 3 Tryz.f3 Rows.scopeWrongSpec Rows.scopeWrongRow = true := by kernel_rfl
theorem scopeWrong_named : Tryz.prog.funcNamed "gristmill/gristmilllaw6.ScopeWrong" = some 3 := by kernel_rfl
theorem scopeWrong_inst : Tryz.f3.isInstance Tryz.prog Rows.scopeWrongRow.origin Rows.scopeWrongRow.targs := of_decide_eq_true (by kernel_rfl)

end Go.Proofs.YtknljgjjaifjhaaGreatDoor
