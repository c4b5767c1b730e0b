/- LiftNests: runs. No conditions. -/
import Derived.Test.YtgpiepdkcpkokaaGreatDoorLiftNestsV
namespace Go.Proofs.YtgpiepdkcpkokaaGreatDoor
open Go.Ex
theorem liftNests_r_6_6 : allL (fun z => liftNests_run 6 z) [6] = true := by kernel_rfl
theorem liftNests_r_7_0 : allL (fun z => liftNests_run 7 z) [0] = true := by kernel_rfl
theorem liftNests_r_7_1 : allL (fun z => liftNests_run 7 z) [1] = true := by kernel_rfl
end Go.Proofs.YtgpiepdkcpkokaaGreatDoor
