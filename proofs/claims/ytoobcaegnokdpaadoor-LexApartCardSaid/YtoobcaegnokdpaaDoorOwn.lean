/- The program sets no knob of its own. No conditions. -/
import Derived.Test.YtoobcaegnokdpaaDoorRows
import Derived.Test.YtoobcaegnokdpaaDoorTie
import Derived.Test.YtoobcaegnokdpaaDoorCards
import Derived.WalkKit
import Derived.ProofKit
import Derived.LaidMore
import Derived.OpenShut
import Derived.Stop.Joined
import Derived.Stop.LaidErr
namespace Go.Proofs.YtoobcaegnokdpaaDoor
theorem own : ownKnob Tryd.prog.godebug = none := by kernel_rfl
end Go.Proofs.YtoobcaegnokdpaaDoor
