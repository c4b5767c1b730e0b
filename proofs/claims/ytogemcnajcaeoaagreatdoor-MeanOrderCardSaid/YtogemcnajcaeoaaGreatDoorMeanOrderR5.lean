/- MeanOrder: runs. No conditions. -/
import Derived.Test.YtogemcnajcaeoaaGreatDoorMeanOrderD
namespace Go.Proofs.YtogemcnajcaeoaaGreatDoor
open Go.Ex
theorem meanOrder_r_3_3_0 : allL (fun z => meanOrder_run 3 3 z) [0, 1, 2, 3, 4] = true := by kernel_rfl
end Go.Proofs.YtogemcnajcaeoaaGreatDoor
