/- MeanParts: runs. No conditions. -/
import Derived.Test.YtogemcnajcaeoaaGreatDoorMeanPartsD
namespace Go.Proofs.YtogemcnajcaeoaaGreatDoor
open Go.Ex
theorem meanParts_r_3_0_false : allL (fun z => meanParts_run 3 0 z) [false, true] = true := by kernel_rfl
theorem meanParts_r_3_1_false : allL (fun z => meanParts_run 3 1 z) [false, true] = true := by kernel_rfl
theorem meanParts_r_3_2_false : allL (fun z => meanParts_run 3 2 z) [false, true] = true := by kernel_rfl
end Go.Proofs.YtogemcnajcaeoaaGreatDoor
