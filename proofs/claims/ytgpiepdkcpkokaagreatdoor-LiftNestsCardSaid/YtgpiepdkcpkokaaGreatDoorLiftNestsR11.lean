/- LiftNests: runs. No conditions. -/
import Derived.Test.YtgpiepdkcpkokaaGreatDoorLiftNestsV
namespace Go.Proofs.YtgpiepdkcpkokaaGreatDoor
open Go.Ex
theorem liftNests_r_7_5 : allL (fun z => liftNests_run 7 z) [5] = true := by kernel_rfl
theorem liftNests_r_7_6 : allL (fun z => liftNests_run 7 z) [6] = true := by kernel_rfl
theorem liftNests_r_7_7 : allL (fun z => liftNests_run 7 z) [7] = true := by kernel_rfl
end Go.Proofs.YtgpiepdkcpkokaaGreatDoor
