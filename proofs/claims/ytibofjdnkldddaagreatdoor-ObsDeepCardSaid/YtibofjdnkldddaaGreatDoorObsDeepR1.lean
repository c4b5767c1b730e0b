/- ObsDeep: runs. No conditions. -/
import Derived.Test.YtibofjdnkldddaaGreatDoorObsDeepV
namespace Go.Proofs.YtibofjdnkldddaaGreatDoor
open Go.Ex
theorem obsDeep_r_0_16 : allL (fun z => obsDeep_run 0 z) [16, 17, 18, 19] = true := by kernel_rfl
theorem obsDeep_r_0_20 : allL (fun z => obsDeep_run 0 z) [20, 21, 22, 23] = true := by kernel_rfl
theorem obsDeep_r_0_24 : allL (fun z => obsDeep_run 0 z) [24, 25, 26, 27] = true := by kernel_rfl
theorem obsDeep_r_0_28 : allL (fun z => obsDeep_run 0 z) [28, 29, 30, 31] = true := by kernel_rfl
end Go.Proofs.YtibofjdnkldddaaGreatDoor
