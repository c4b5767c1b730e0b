/- MeanParts: runs. No conditions. -/
import Derived.Test.YtogemcnajcaeoaaGreatDoorMeanPartsD
namespace Go.Proofs.YtogemcnajcaeoaaGreatDoor
open Go.Ex
theorem meanParts_r_2_0_false : allL (fun z => meanParts_run 2 0 z) [false, true] = true := by kernel_rfl
theorem meanParts_r_2_1_false : allL (fun z => meanParts_run 2 1 z) [false, true] = true := by kernel_rfl
theorem meanParts_r_2_2_false : allL (fun z => meanParts_run 2 2 z) [false, true] = true := by kernel_rfl
end Go.Proofs.YtogemcnajcaeoaaGreatDoor
