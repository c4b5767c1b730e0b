/- MeanParts: runs. No conditions. -/
import Derived.Test.YtogemcnajcaeoaaGreatDoorMeanPartsD
namespace Go.Proofs.YtogemcnajcaeoaaGreatDoor
open Go.Ex
theorem meanParts_r_4_2_false : allL (fun z => meanParts_run 4 2 z) [false, true] = true := by kernel_rfl
theorem meanParts_r_4_3_false : allL (fun z => meanParts_run 4 3 z) [false, true] = true := by kernel_rfl
theorem meanParts_r_4_4_false : allL (fun z => meanParts_run 4 4 z) [false, true] = true := by kernel_rfl
end Go.Proofs.YtogemcnajcaeoaaGreatDoor
