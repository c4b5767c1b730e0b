/- SynLimits: runs. No conditions. -/
import Derived.Test.YtcnihampedieaaaGreatDoorSynLimitsV
namespace Go.Proofs.YtcnihampedieaaaGreatDoor
open Go.Ex
theorem synLimits_r_0_3 : allL (fun z => synLimits_run 0 z) [3] = true := by kernel_rfl
theorem synLimits_r_1_0 : allL (fun z => synLimits_run 1 z) [0] = true := by kernel_rfl
theorem synLimits_r_1_1 : allL (fun z => synLimits_run 1 z) [1] = true := by kernel_rfl
end Go.Proofs.YtcnihampedieaaaGreatDoor
