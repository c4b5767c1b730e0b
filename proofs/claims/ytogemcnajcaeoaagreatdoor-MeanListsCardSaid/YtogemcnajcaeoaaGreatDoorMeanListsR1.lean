/- MeanLists: runs. No conditions. -/
import Derived.Test.YtogemcnajcaeoaaGreatDoorMeanListsD
namespace Go.Proofs.YtogemcnajcaeoaaGreatDoor
open Go.Ex
theorem meanLists_r_3 : allL (fun z => meanLists_run z) [3] = true := by kernel_rfl
theorem meanLists_r_4 : allL (fun z => meanLists_run z) [4] = true := by kernel_rfl
theorem meanLists_r_5 : allL (fun z => meanLists_run z) [5] = true := by kernel_rfl
end Go.Proofs.YtogemcnajcaeoaaGreatDoor
