/- SynLimits: runs. No conditions. -/
import Derived.Test.YtcnihampedieaaaGreatDoorSynLimitsV
namespace Go.Proofs.YtcnihampedieaaaGreatDoor
open Go.Ex
theorem synLimits_r_2_1 : allL (fun z => synLimits_run 2 z) [1] = true := by kernel_rfl
theorem synLimits_r_2_2 : allL (fun z => synLimits_run 2 z) [2] = true := by kernel_rfl
theorem synLimits_r_2_3 : allL (fun z => synLimits_run 2 z) [3] = true := by kernel_rfl
end Go.Proofs.YtcnihampedieaaaGreatDoor
