/- SynLimits: runs. No conditions. -/
import Derived.Test.YtcnihampedieaaaGreatDoorSynLimitsV
namespace Go.Proofs.YtcnihampedieaaaGreatDoor
open Go.Ex
theorem synLimits_r_0_0 : allL (fun z => synLimits_run 0 z) [0] = true := by kernel_rfl
theorem synLimits_r_0_1 : allL (fun z => synLimits_run 0 z) [1] = true := by kernel_rfl
theorem synLimits_r_0_2 : allL (fun z => synLimits_run 0 z) [2] = true := by kernel_rfl
end Go.Proofs.YtcnihampedieaaaGreatDoor
