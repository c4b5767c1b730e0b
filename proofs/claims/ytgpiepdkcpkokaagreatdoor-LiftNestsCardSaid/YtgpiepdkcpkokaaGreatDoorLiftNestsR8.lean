/- LiftNests: runs. No conditions. -/
import Derived.Test.YtgpiepdkcpkokaaGreatDoorLiftNestsV
namespace Go.Proofs.YtgpiepdkcpkokaaGreatDoor
open Go.Ex
theorem liftNests_r_6_3 : allL (fun z => liftNests_run 6 z) [3] = true := by kernel_rfl
theorem liftNests_r_6_4 : allL (fun z => liftNests_run 6 z) [4] = true := by kernel_rfl
theorem liftNests_r_6_5 : allL (fun z => liftNests_run 6 z) [5] = true := by kernel_rfl
end Go.Proofs.YtgpiepdkcpkokaaGreatDoor
