/- The program sets no knob of its own. No conditions. -/
import Derived.Test.YtoidogfnjpmceaaDoorRows
import Derived.Test.YtoidogfnjpmceaaDoorTie
import Derived.Test.YtoidogfnjpmceaaDoorCards
import Derived.WalkKit
import Derived.ProofKit
import Derived.LaidMore
import Derived.OpenShut
import Derived.Stop.Joined
import Derived.Stop.LaidErr
namespace Go.Proofs.YtoidogfnjpmceaaDoor
theorem own : ownKnob Tryd.prog.godebug = none := by kernel_rfl
end Go.Proofs.YtoidogfnjpmceaaDoor
