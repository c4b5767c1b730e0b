/- LiftNests: runs. No conditions. -/
import Derived.Test.YtgpiepdkcpkokaaGreatDoorLiftNestsV
namespace Go.Proofs.YtgpiepdkcpkokaaGreatDoor
open Go.Ex
theorem liftNests_r_3_0 : allL (fun z => liftNests_run 3 z) [0] = true := by kernel_rfl
theorem liftNests_r_3_1 : allL (fun z => liftNests_run 3 z) [1] = true := by kernel_rfl
theorem liftNests_r_3_2 : allL (fun z => liftNests_run 3 z) [2] = true := by kernel_rfl
end Go.Proofs.YtgpiepdkcpkokaaGreatDoor
