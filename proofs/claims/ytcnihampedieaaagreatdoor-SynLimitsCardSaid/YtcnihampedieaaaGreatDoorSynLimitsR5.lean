/- SynLimits: runs. No conditions. -/
import Derived.Test.YtcnihampedieaaaGreatDoorSynLimitsV
namespace Go.Proofs.YtcnihampedieaaaGreatDoor
open Go.Ex
theorem synLimits_r_3_3 : allL (fun z => synLimits_run 3 z) [3] = true := by kernel_rfl
theorem synLimits_r_4_0 : allL (fun z => synLimits_run 4 z) [0] = true := by kernel_rfl
theorem synLimits_r_4_1 : allL (fun z => synLimits_run 4 z) [1] = true := by kernel_rfl
end Go.Proofs.YtcnihampedieaaaGreatDoor
