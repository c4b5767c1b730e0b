/- LiftNests: runs. No conditions. -/
import Derived.Test.YtgpiepdkcpkokaaGreatDoorLiftNestsV
namespace Go.Proofs.YtgpiepdkcpkokaaGreatDoor
open Go.Ex
theorem liftNests_r_4_2 : allL (fun z => liftNests_run 4 z) [2] = true := by kernel_rfl
theorem liftNests_r_4_3 : allL (fun z => liftNests_run 4 z) [3] = true := by kernel_rfl
theorem liftNests_r_4_4 : allL (fun z => liftNests_run 4 z) [4] = true := by kernel_rfl
end Go.Proofs.YtgpiepdkcpkokaaGreatDoor
