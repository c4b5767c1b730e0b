/- ObsDeep: runs. No conditions. -/
import Derived.Test.YtibofjdnkldddaaGreatDoorObsDeepV
namespace Go.Proofs.YtibofjdnkldddaaGreatDoor
open Go.Ex
theorem obsDeep_r_3_24 : allL (fun z => obsDeep_run 3 z) [24, 25, 26, 27] = true := by kernel_rfl
theorem obsDeep_r_3_28 : allL (fun z => obsDeep_run 3 z) [28, 29, 30, 31] = true := by kernel_rfl
theorem obsDeep_r_3_32 : allL (fun z => obsDeep_run 3 z) [32, 33, 34, 35] = true := by kernel_rfl
theorem obsDeep_r_3_36 : allL (fun z => obsDeep_run 3 z) [36, 37, 38, 39] = true := by kernel_rfl
end Go.Proofs.YtibofjdnkldddaaGreatDoor
