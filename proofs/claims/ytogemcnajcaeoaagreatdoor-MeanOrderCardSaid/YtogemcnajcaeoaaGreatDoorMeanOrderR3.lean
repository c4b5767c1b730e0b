/- MeanOrder: runs. No conditions. -/
import Derived.Test.YtogemcnajcaeoaaGreatDoorMeanOrderD
namespace Go.Proofs.YtogemcnajcaeoaaGreatDoor
open Go.Ex
theorem meanOrder_r_2_1_0 : allL (fun z => meanOrder_run 2 1 z) [0, 1, 2, 3, 4] = true := by kernel_rfl
theorem meanOrder_r_2_2_0 : allL (fun z => meanOrder_run 2 2 z) [0, 1, 2, 3, 4] = true := by kernel_rfl
theorem meanOrder_r_2_3_0 : allL (fun z => meanOrder_run 2 3 z) [0, 1, 2, 3, 4] = true := by kernel_rfl
end Go.Proofs.YtogemcnajcaeoaaGreatDoor
