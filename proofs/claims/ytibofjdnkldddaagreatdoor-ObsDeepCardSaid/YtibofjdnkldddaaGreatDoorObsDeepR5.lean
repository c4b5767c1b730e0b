/- ObsDeep: runs. No conditions. -/
import Derived.Test.YtibofjdnkldddaaGreatDoorObsDeepV
namespace Go.Proofs.YtibofjdnkldddaaGreatDoor
open Go.Ex
theorem obsDeep_r_2_0 : allL (fun z => obsDeep_run 2 z) [0, 1, 2, 3] = true := by kernel_rfl
theorem obsDeep_r_2_4 : allL (fun z => obsDeep_run 2 z) [4, 5, 6, 7] = true := by kernel_rfl
theorem obsDeep_r_2_8 : allL (fun z => obsDeep_run 2 z) [8, 9, 10, 11] = true := by kernel_rfl
theorem obsDeep_r_2_12 : allL (fun z => obsDeep_run 2 z) [12, 13, 14, 15] = true := by kernel_rfl
end Go.Proofs.YtibofjdnkldddaaGreatDoor
