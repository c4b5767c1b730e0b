/- SynLimits: runs. No conditions. -/
import Derived.Test.YtcnihampedieaaaGreatDoorSynLimitsV
namespace Go.Proofs.YtcnihampedieaaaGreatDoor
open Go.Ex
theorem synLimits_r_1_2 : allL (fun z => synLimits_run 1 z) [2] = true := by kernel_rfl
theorem synLimits_r_1_3 : allL (fun z => synLimits_run 1 z) [3] = true := by kernel_rfl
theorem synLimits_r_2_0 : allL (fun z => synLimits_run 2 z) [0] = true := by kernel_rfl
end Go.Proofs.YtcnihampedieaaaGreatDoor
