/- The program sets no knob of its own. No conditions. -/
import Derived.Test.YtlniackafagajaaDoorRows
import Derived.Test.YtlniackafagajaaDoorTie
import Derived.Test.YtlniackafagajaaDoorCards
import Derived.WalkKit
import Derived.ProofKit
import Derived.LaidMore
import Derived.OpenShut
import Derived.Stop.Joined
import Derived.Stop.LaidErr
namespace Go.Proofs.YtlniackafagajaaDoor
theorem own : ownKnob Tryd.prog.godebug = none := by kernel_rfl
end Go.Proofs.YtlniackafagajaaDoor
