/- MeanCases: runs. No conditions. -/
import Derived.Test.YtogemcnajcaeoaaGreatDoorMeanCasesD
namespace Go.Proofs.YtogemcnajcaeoaaGreatDoor
open Go.Ex
theorem meanCases_r_1_6_0 : allL (fun z => meanCases_run 1 6 z) [0, 1, 2] = true := by kernel_rfl
theorem meanCases_r_1_6_3 : allL (fun z => meanCases_run 1 6 z) [3] = true := by kernel_rfl
theorem meanCases_r_1_7_0 : allL (fun z => meanCases_run 1 7 z) [0, 1, 2] = true := by kernel_rfl
theorem meanCases_r_1_7_3 : allL (fun z => meanCases_run 1 7 z) [3] = true := by kernel_rfl
end Go.Proofs.YtogemcnajcaeoaaGreatDoor
