/- ObsDeep: runs. No conditions. -/
import Derived.Test.YtibofjdnkldddaaGreatDoorObsDeepV
namespace Go.Proofs.YtibofjdnkldddaaGreatDoor
open Go.Ex
theorem obsDeep_r_3_8 : allL (fun z => obsDeep_run 3 z) [8, 9, 10, 11] = true := by kernel_rfl
theorem obsDeep_r_3_12 : allL (fun z => obsDeep_run 3 z) [12, 13, 14, 15] = true := by kernel_rfl
theorem obsDeep_r_3_16 : allL (fun z => obsDeep_run 3 z) [16, 17, 18, 19] = true := by kernel_rfl
theorem obsDeep_r_3_20 : allL (fun z => obsDeep_run 3 z) [20, 21, 22, 23] = true := by kernel_rfl
end Go.Proofs.YtibofjdnkldddaaGreatDoor
