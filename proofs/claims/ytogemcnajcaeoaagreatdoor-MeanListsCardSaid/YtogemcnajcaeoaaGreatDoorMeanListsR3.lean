/- MeanLists: runs. No conditions. -/
import Derived.Test.YtogemcnajcaeoaaGreatDoorMeanListsD
namespace Go.Proofs.YtogemcnajcaeoaaGreatDoor
open Go.Ex
theorem meanLists_r_9 : allL (fun z => meanLists_run z) [9] = true := by kernel_rfl
theorem meanLists_r_10 : allL (fun z => meanLists_run z) [10] = true := by kernel_rfl
theorem meanLists_r_11 : allL (fun z => meanLists_run z) [11] = true := by kernel_rfl
end Go.Proofs.YtogemcnajcaeoaaGreatDoor
