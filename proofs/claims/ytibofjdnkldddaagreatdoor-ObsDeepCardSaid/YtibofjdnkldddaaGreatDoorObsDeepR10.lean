/- ObsDeep: runs. No conditions. -/
import Derived.Test.YtibofjdnkldddaaGreatDoorObsDeepV
namespace Go.Proofs.YtibofjdnkldddaaGreatDoor
open Go.Ex
theorem obsDeep_r_3_40 : allL (fun z => obsDeep_run 3 z) [40] = true := by kernel_rfl
theorem obsDeep_r_4_0 : allL (fun z => obsDeep_run 4 z) [0] = true := by kernel_rfl
theorem obsDeep_r_5_0 : allL (fun z => obsDeep_run 5 z) [0] = true := by kernel_rfl
end Go.Proofs.YtibofjdnkldddaaGreatDoor
