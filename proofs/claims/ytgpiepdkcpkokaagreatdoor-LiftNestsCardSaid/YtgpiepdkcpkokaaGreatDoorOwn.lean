/- The program sets no knob of its own. No conditions. -/
import Derived.Test.YtgpiepdkcpkokaaGreatDoorRows
import Derived.Test.YtgpiepdkcpkokaaGreatDoorTie
import Derived.Test.YtgpiepdkcpkokaaGreatDoorCards
import Derived.WalkKit
import Derived.ProofKit
import Derived.LaidMore
import Derived.OpenShut
import Derived.Stop.Joined
import Derived.Stop.LaidErr
namespace Go.Proofs.YtgpiepdkcpkokaaGreatDoor
theorem own : ownKnob Tryz.prog.godebug = none := by kernel_rfl
end Go.Proofs.YtgpiepdkcpkokaaGreatDoor
