/- MeanCases: runs. No conditions. -/
import Derived.Test.YtogemcnajcaeoaaGreatDoorMeanCasesD
namespace Go.Proofs.YtogemcnajcaeoaaGreatDoor
open Go.Ex
theorem meanCases_r_2_0_0 : allL (fun z => meanCases_run 2 0 z) [0, 1, 2] = true := by kernel_rfl
theorem meanCases_r_2_0_3 : allL (fun z => meanCases_run 2 0 z) [3] = true := by kernel_rfl
theorem meanCases_r_2_1_0 : allL (fun z => meanCases_run 2 1 z) [0, 1, 2] = true := by kernel_rfl
theorem meanCases_r_2_1_3 : allL (fun z => meanCases_run 2 1 z) [3] = true := by kernel_rfl
end Go.Proofs.YtogemcnajcaeoaaGreatDoor
