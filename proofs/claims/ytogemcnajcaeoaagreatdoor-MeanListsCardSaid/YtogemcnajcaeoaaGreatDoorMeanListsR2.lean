/- MeanLists: runs. No conditions. -/
import Derived.Test.YtogemcnajcaeoaaGreatDoorMeanListsD
namespace Go.Proofs.YtogemcnajcaeoaaGreatDoor
open Go.Ex
theorem meanLists_r_6 : allL (fun z => meanLists_run z) [6] = true := by kernel_rfl
theorem meanLists_r_7 : allL (fun z => meanLists_run z) [7] = true := by kernel_rfl
theorem meanLists_r_8 : allL (fun z => meanLists_run z) [8] = true := by kernel_rfl
end Go.Proofs.YtogemcnajcaeoaaGreatDoor
