/- The program sets no knob of its own. No conditions. -/
import Derived.Test.YtkbdnegafidbcaaGreatDoorRows
import Derived.Test.YtkbdnegafidbcaaGreatDoorTie
import Derived.Test.YtkbdnegafidbcaaGreatDoorCards
import Derived.WalkKit
import Derived.ProofKit
import Derived.LaidMore
import Derived.OpenShut
import Derived.Stop.Joined
import Derived.Stop.LaidErr
namespace Go.Proofs.YtkbdnegafidbcaaGreatDoor
theorem own : ownKnob Tryz.prog.godebug = none := by kernel_rfl
end Go.Proofs.YtkbdnegafidbcaaGreatDoor
