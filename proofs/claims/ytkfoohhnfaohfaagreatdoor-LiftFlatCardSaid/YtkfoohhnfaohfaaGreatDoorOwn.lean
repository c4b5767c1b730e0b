/- The program sets no knob of its own. No conditions. -/
import Derived.Test.YtkfoohhnfaohfaaGreatDoorRows
import Derived.Test.YtkfoohhnfaohfaaGreatDoorTie
import Derived.Test.YtkfoohhnfaohfaaGreatDoorCards
import Derived.WalkKit
import Derived.ProofKit
import Derived.LaidMore
import Derived.OpenShut
import Derived.Stop.Joined
import Derived.Stop.LaidErr
namespace Go.Proofs.YtkfoohhnfaohfaaGreatDoor
theorem own : ownKnob Tryz.prog.godebug = none := by kernel_rfl
end Go.Proofs.YtkfoohhnfaohfaaGreatDoor
