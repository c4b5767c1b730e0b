/- The program sets no knob of its own. No conditions. -/
import Derived.Test.YtnbalhonhfiljaaGreatDoorRows
import Derived.Test.YtnbalhonhfiljaaGreatDoorTie
import Derived.Test.YtnbalhonhfiljaaGreatDoorCards
import Derived.WalkKit
import Derived.ProofKit
import Derived.LaidMore
import Derived.OpenShut
import Derived.Stop.Joined
import Derived.Stop.LaidErr
namespace Go.Proofs.YtnbalhonhfiljaaGreatDoor
theorem own : ownKnob Tryz.prog.godebug = none := by kernel_rfl
end Go.Proofs.YtnbalhonhfiljaaGreatDoor
