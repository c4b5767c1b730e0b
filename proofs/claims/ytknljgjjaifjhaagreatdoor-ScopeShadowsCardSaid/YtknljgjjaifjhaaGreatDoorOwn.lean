/- The program sets no knob of its own. No conditions. -/
import Derived.Test.YtknljgjjaifjhaaGreatDoorRows
import Derived.Test.YtknljgjjaifjhaaGreatDoorTie
import Derived.Test.YtknljgjjaifjhaaGreatDoorCards
import Derived.WalkKit
import Derived.ProofKit
import Derived.LaidMore
import Derived.OpenShut
import Derived.Stop.Joined
import Derived.Stop.LaidErr
namespace Go.Proofs.YtknljgjjaifjhaaGreatDoor
theorem own : ownKnob Tryz.prog.godebug = none := by kernel_rfl
end Go.Proofs.YtknljgjjaifjhaaGreatDoor
