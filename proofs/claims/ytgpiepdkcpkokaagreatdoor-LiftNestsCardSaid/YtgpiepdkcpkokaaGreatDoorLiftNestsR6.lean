/- LiftNests: runs. No conditions. -/
import Derived.Test.YtgpiepdkcpkokaaGreatDoorLiftNestsV
namespace Go.Proofs.YtgpiepdkcpkokaaGreatDoor
open Go.Ex
theorem liftNests_r_5_3 : allL (fun z => liftNests_run 5 z) [3] = true := by kernel_rfl
theorem liftNests_r_5_4 : allL (fun z => liftNests_run 5 z) [4] = true := by kernel_rfl
theorem liftNests_r_5_5 : allL (fun z => liftNests_run 5 z) [5] = true := by kernel_rfl
end Go.Proofs.YtgpiepdkcpkokaaGreatDoor
