/- MeanParts: runs. No conditions. -/
import Derived.Test.YtogemcnajcaeoaaGreatDoorMeanPartsD
namespace Go.Proofs.YtogemcnajcaeoaaGreatDoor
open Go.Ex
theorem meanParts_r_3_3_false : allL (fun z => meanParts_run 3 3 z) [false, true] = true := by kernel_rfl
theorem meanParts_r_4_0_false : allL (fun z => meanParts_run 4 0 z) [false, true] = true := by kernel_rfl
theorem meanParts_r_4_1_false : allL (fun z => meanParts_run 4 1 z) [false, true] = true := by kernel_rfl
end Go.Proofs.YtogemcnajcaeoaaGreatDoor
