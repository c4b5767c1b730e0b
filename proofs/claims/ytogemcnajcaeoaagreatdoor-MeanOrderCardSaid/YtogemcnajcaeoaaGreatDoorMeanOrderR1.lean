/- MeanOrder: runs. No conditions. -/
import Derived.Test.YtogemcnajcaeoaaGreatDoorMeanOrderD
namespace Go.Proofs.YtogemcnajcaeoaaGreatDoor
open Go.Ex
theorem meanOrder_r_0_3_0 : allL (fun z => meanOrder_run 0 3 z) [0, 1, 2, 3, 4] = true := by kernel_rfl
theorem meanOrder_r_1_0_0 : allL (fun z => meanOrder_run 1 0 z) [0, 1, 2, 3, 4] = true := by kernel_rfl
theorem meanOrder_r_1_1_0 : allL (fun z => meanOrder_run 1 1 z) [0, 1, 2, 3, 4] = true := by kernel_rfl
end Go.Proofs.YtogemcnajcaeoaaGreatDoor
