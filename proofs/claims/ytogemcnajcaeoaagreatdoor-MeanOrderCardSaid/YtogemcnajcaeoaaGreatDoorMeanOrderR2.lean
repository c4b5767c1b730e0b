/- MeanOrder: runs. No conditions. -/
import Derived.Test.YtogemcnajcaeoaaGreatDoorMeanOrderD
namespace Go.Proofs.YtogemcnajcaeoaaGreatDoor
open Go.Ex
theorem meanOrder_r_1_2_0 : allL (fun z => meanOrder_run 1 2 z) [0, 1, 2, 3, 4] = true := by kernel_rfl
theorem meanOrder_r_1_3_0 : allL (fun z => meanOrder_run 1 3 z) [0, 1, 2, 3, 4] = true := by kernel_rfl
theorem meanOrder_r_2_0_0 : allL (fun z => meanOrder_run 2 0 z) [0, 1, 2, 3, 4] = true := by kernel_rfl
end Go.Proofs.YtogemcnajcaeoaaGreatDoor
