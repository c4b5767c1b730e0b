/- ObsDeep: runs. No conditions. -/
import Derived.Test.YtibofjdnkldddaaGreatDoorObsDeepV
namespace Go.Proofs.YtibofjdnkldddaaGreatDoor
open Go.Ex
theorem obsDeep_r_1_24 : allL (fun z => obsDeep_run 1 z) [24, 25, 26, 27] = true := by kernel_rfl
theorem obsDeep_r_1_28 : allL (fun z => obsDeep_run 1 z) [28, 29, 30, 31] = true := by kernel_rfl
theorem obsDeep_r_1_32 : allL (fun z => obsDeep_run 1 z) [32, 33, 34, 35] = true := by kernel_rfl
theorem obsDeep_r_1_36 : allL (fun z => obsDeep_run 1 z) [36, 37, 38] = true := by kernel_rfl
end Go.Proofs.YtibofjdnkldddaaGreatDoor
