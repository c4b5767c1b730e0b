/- ObsDeep: runs. No conditions. -/
import Derived.Test.YtibofjdnkldddaaGreatDoorObsDeepV
namespace Go.Proofs.YtibofjdnkldddaaGreatDoor
open Go.Ex
theorem obsDeep_r_2_32 : allL (fun z => obsDeep_run 2 z) [32, 33, 34, 35] = true := by kernel_rfl
theorem obsDeep_r_2_36 : allL (fun z => obsDeep_run 2 z) [36, 37, 38, 39] = true := by kernel_rfl
theorem obsDeep_r_3_0 : allL (fun z => obsDeep_run 3 z) [0, 1, 2, 3] = true := by kernel_rfl
theorem obsDeep_r_3_4 : allL (fun z => obsDeep_run 3 z) [4, 5, 6, 7] = true := by kernel_rfl
end Go.Proofs.YtibofjdnkldddaaGreatDoor
