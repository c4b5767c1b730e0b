/- The program sets no knob of its own. No conditions. -/
import Derived.Test.YtaoigapdkfjegaaGreatDoorRows
import Derived.Test.YtaoigapdkfjegaaGreatDoorTie
import Derived.Test.YtaoigapdkfjegaaGreatDoorCards
import Derived.WalkKit
import Derived.ProofKit
import Derived.LaidMore
import Derived.OpenShut
import Derived.Stop.Joined
import Derived.Stop.LaidErr
namespace Go.Proofs.YtaoigapdkfjegaaGreatDoor
theorem own : ownKnob Tryz.prog.godebug = none := by kernel_rfl
end Go.Proofs.YtaoigapdkfjegaaGreatDoor
