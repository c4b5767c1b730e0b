/- The program sets no knob of its own. No conditions. -/
import Derived.Test.YtledjcplbldokaaGreatDoorRows
import Derived.Test.YtledjcplbldokaaGreatDoorTie
import Derived.Test.YtledjcplbldokaaGreatDoorCards
import Derived.WalkKit
import Derived.ProofKit
import Derived.LaidMore
import Derived.OpenShut
import Derived.Stop.Joined
import Derived.Stop.LaidErr
namespace Go.Proofs.YtledjcplbldokaaGreatDoor
theorem own : ownKnob Tryz.prog.godebug = none := by kernel_rfl
end Go.Proofs.YtledjcplbldokaaGreatDoor
