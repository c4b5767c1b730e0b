/- SynLimits: runs. No conditions. -/
import Derived.Test.YtcnihampedieaaaGreatDoorSynLimitsV
namespace Go.Proofs.YtcnihampedieaaaGreatDoor
open Go.Ex
theorem synLimits_r_4_2 : allL (fun z => synLimits_run 4 z) [2] = true := by kernel_rfl
theorem synLimits_r_4_3 : allL (fun z => synLimits_run 4 z) [3] = true := by kernel_rfl
end Go.Proofs.YtcnihampedieaaaGreatDoor
