/- The program sets no knob of its own. No conditions. -/
import Derived.Test.YtlblhlnpmdfblaaDoorRows
import Derived.Test.YtlblhlnpmdfblaaDoorTie
import Derived.Test.YtlblhlnpmdfblaaDoorCards
import Derived.WalkKit
import Derived.ProofKit
import Derived.LaidMore
import Derived.OpenShut
import Derived.Stop.Joined
import Derived.Stop.LaidErr
namespace Go.Proofs.YtlblhlnpmdfblaaDoor
theorem own : ownKnob Tryd.prog.godebug = none := by kernel_rfl
end Go.Proofs.YtlblhlnpmdfblaaDoor
