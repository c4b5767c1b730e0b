/- ObsDeep: runs. No conditions. -/
import Derived.Test.YtibofjdnkldddaaGreatDoorObsDeepV
namespace Go.Proofs.YtibofjdnkldddaaGreatDoor
open Go.Ex
theorem obsDeep_r_0_32 : allL (fun z => obsDeep_run 0 z) [32, 33, 34, 35] = true := by kernel_rfl
theorem obsDeep_r_0_36 : allL (fun z => obsDeep_run 0 z) [36, 37] = true := by kernel_rfl
theorem obsDeep_r_1_0 : allL (fun z => obsDeep_run 1 z) [0, 1, 2, 3] = true := by kernel_rfl
theorem obsDeep_r_1_4 : allL (fun z => obsDeep_run 1 z) [4, 5, 6, 7] = true := by kernel_rfl
end Go.Proofs.YtibofjdnkldddaaGreatDoor
