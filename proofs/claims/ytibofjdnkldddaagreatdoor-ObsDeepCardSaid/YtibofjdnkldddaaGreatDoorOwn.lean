/- The program sets no knob of its own. No conditions. -/
import Derived.Test.YtibofjdnkldddaaGreatDoorRows
import Derived.Test.YtibofjdnkldddaaGreatDoorTie
import Derived.Test.YtibofjdnkldddaaGreatDoorCards
import Derived.WalkKit
import Derived.ProofKit
import Derived.LaidMore
import Derived.OpenShut
import Derived.Stop.Joined
import Derived.Stop.LaidErr
namespace Go.Proofs.YtibofjdnkldddaaGreatDoor
theorem own : ownKnob Tryz.prog.godebug = none := by kernel_rfl
end Go.Proofs.YtibofjdnkldddaaGreatDoor
