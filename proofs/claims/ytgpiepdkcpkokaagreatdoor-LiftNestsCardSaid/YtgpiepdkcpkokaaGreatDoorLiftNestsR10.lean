/- LiftNests: runs. No conditions. -/
import Derived.Test.YtgpiepdkcpkokaaGreatDoorLiftNestsV
namespace Go.Proofs.YtgpiepdkcpkokaaGreatDoor
open Go.Ex
theorem liftNests_r_7_2 : allL (fun z => liftNests_run 7 z) [2] = true := by kernel_rfl
theorem liftNests_r_7_3 : allL (fun z => liftNests_run 7 z) [3] = true := by kernel_rfl
theorem liftNests_r_7_4 : allL (fun z => liftNests_run 7 z) [4] = true := by kernel_rfl
end Go.Proofs.YtgpiepdkcpkokaaGreatDoor
