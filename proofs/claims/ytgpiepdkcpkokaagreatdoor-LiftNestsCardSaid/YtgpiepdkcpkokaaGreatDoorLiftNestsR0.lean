/- LiftNests: runs. No conditions. -/
import Derived.Test.YtgpiepdkcpkokaaGreatDoorLiftNestsV
namespace Go.Proofs.YtgpiepdkcpkokaaGreatDoor
open Go.Ex
theorem liftNests_r_0_0 : allL (fun z => liftNests_run 0 z) [0] = true := by kernel_rfl
theorem liftNests_r_1_0 : allL (fun z => liftNests_run 1 z) [0] = true := by kernel_rfl
theorem liftNests_r_1_1 : allL (fun z => liftNests_run 1 z) [1] = true := by kernel_rfl
end Go.Proofs.YtgpiepdkcpkokaaGreatDoor
