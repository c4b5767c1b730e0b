/- The program sets no knob of its own. No conditions. -/
import Derived.Test.YtcnihampedieaaaGreatDoorRows
import Derived.Test.YtcnihampedieaaaGreatDoorTie
import Derived.Test.YtcnihampedieaaaGreatDoorCards
import Derived.WalkKit
import Derived.ProofKit
import Derived.LaidMore
import Derived.OpenShut
import Derived.Stop.Joined
import Derived.Stop.LaidErr
namespace Go.Proofs.YtcnihampedieaaaGreatDoor
theorem own : ownKnob Tryz.prog.godebug = none := by kernel_rfl
end Go.Proofs.YtcnihampedieaaaGreatDoor
