/- MeanLists: runs. No conditions. -/
import Derived.Test.YtogemcnajcaeoaaGreatDoorMeanListsD
namespace Go.Proofs.YtogemcnajcaeoaaGreatDoor
open Go.Ex
theorem meanLists_r_0 : allL (fun z => meanLists_run z) [0] = true := by kernel_rfl
theorem meanLists_r_1 : allL (fun z => meanLists_run z) [1] = true := by kernel_rfl
theorem meanLists_r_2 : allL (fun z => meanLists_run z) [2] = true := by kernel_rfl
end Go.Proofs.YtogemcnajcaeoaaGreatDoor
