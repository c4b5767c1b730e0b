/- The program sets no knob of its own. No conditions. -/
import Derived.Test.YtogemcnajcaeoaaGreatDoorRows
import Derived.Test.YtogemcnajcaeoaaGreatDoorTie
import Derived.Test.YtogemcnajcaeoaaGreatDoorCards
import Derived.WalkKit
import Derived.ProofKit
import Derived.LaidMore
import Derived.OpenShut
import Derived.Stop.Joined
import Derived.Stop.LaidErr
namespace Go.Proofs.YtogemcnajcaeoaaGreatDoor
theorem own : ownKnob Tryz.prog.godebug = none := by kernel_rfl
end Go.Proofs.YtogemcnajcaeoaaGreatDoor
