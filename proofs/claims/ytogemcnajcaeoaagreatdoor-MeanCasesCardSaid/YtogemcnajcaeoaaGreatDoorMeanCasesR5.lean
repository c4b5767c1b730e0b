/- MeanCases: runs. No conditions. -/
import Derived.Test.YtogemcnajcaeoaaGreatDoorMeanCasesD
namespace Go.Proofs.YtogemcnajcaeoaaGreatDoor
open Go.Ex
theorem meanCases_r_1_2_0 : allL (fun z => meanCases_run 1 2 z) [0, 1, 2] = true := by kernel_rfl
theorem meanCases_r_1_2_3 : allL (fun z => meanCases_run 1 2 z) [3] = true := by kernel_rfl
theorem meanCases_r_1_3_0 : allL (fun z => meanCases_run 1 3 z) [0, 1, 2] = true := by kernel_rfl
theorem meanCases_r_1_3_3 : allL (fun z => meanCases_run 1 3 z) [3] = true := by kernel_rfl
end Go.Proofs.YtogemcnajcaeoaaGreatDoor
