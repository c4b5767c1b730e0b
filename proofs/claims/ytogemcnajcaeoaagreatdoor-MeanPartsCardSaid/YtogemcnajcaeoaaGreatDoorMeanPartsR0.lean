/- MeanParts: runs. No conditions. -/
import Derived.Test.YtogemcnajcaeoaaGreatDoorMeanPartsD
namespace Go.Proofs.YtogemcnajcaeoaaGreatDoor
open Go.Ex
theorem meanParts_r_0_0_false : allL (fun z => meanParts_run 0 0 z) [false, true] = true := by kernel_rfl
theorem meanParts_r_1_0_false : allL (fun z => meanParts_run 1 0 z) [false, true] = true := by kernel_rfl
theorem meanParts_r_1_1_false : allL (fun z => meanParts_run 1 1 z) [false, true] = true := by kernel_rfl
end Go.Proofs.YtogemcnajcaeoaaGreatDoor
