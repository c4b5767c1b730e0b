/- LiftNests: runs. No conditions. -/
import Derived.Test.YtgpiepdkcpkokaaGreatDoorLiftNestsV
namespace Go.Proofs.YtgpiepdkcpkokaaGreatDoor
open Go.Ex
theorem liftNests_r_3_3 : allL (fun z => liftNests_run 3 z) [3] = true := by kernel_rfl
theorem liftNests_r_4_0 : allL (fun z => liftNests_run 4 z) [0] = true := by kernel_rfl
theorem liftNests_r_4_1 : allL (fun z => liftNests_run 4 z) [1] = true := by kernel_rfl
end Go.Proofs.YtgpiepdkcpkokaaGreatDoor
