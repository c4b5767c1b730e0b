/- The program sets no knob of its own. No conditions. -/
import Derived.Test.YthiilelbhdohhaaGreatDoorRows
import Derived.Test.YthiilelbhdohhaaGreatDoorTie
import Derived.Test.YthiilelbhdohhaaGreatDoorCards
import Derived.WalkKit
import Derived.ProofKit
import Derived.LaidMore
import Derived.OpenShut
import Derived.Stop.Joined
import Derived.Stop.LaidErr
namespace Go.Proofs.YthiilelbhdohhaaGreatDoor
theorem own : ownKnob Tryz.prog.godebug = none := by kernel_rfl
end Go.Proofs.YthiilelbhdohhaaGreatDoor
