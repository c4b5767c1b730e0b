/- The program sets no knob of its own. No conditions. -/
import Derived.Test.YtcplajplbocieaaDoorRows
import Derived.Test.YtcplajplbocieaaDoorTie
import Derived.Test.YtcplajplbocieaaDoorCards
import Derived.WalkKit
import Derived.ProofKit
import Derived.LaidMore
import Derived.OpenShut
import Derived.Stop.Joined
import Derived.Stop.LaidErr
namespace Go.Proofs.YtcplajplbocieaaDoor
theorem own : ownKnob Tryd.prog.godebug = none := by kernel_rfl
end Go.Proofs.YtcplajplbocieaaDoor
