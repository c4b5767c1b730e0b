/- MeanCases: runs. No conditions. -/
import Derived.Test.YtogemcnajcaeoaaGreatDoorMeanCasesD
namespace Go.Proofs.YtogemcnajcaeoaaGreatDoor
open Go.Ex
theorem meanCases_r_2_4_0 : allL (fun z => meanCases_run 2 4 z) [0, 1, 2] = true := by kernel_rfl
theorem meanCases_r_2_4_3 : allL (fun z => meanCases_run 2 4 z) [3] = true := by kernel_rfl
theorem meanCases_r_2_5_0 : allL (fun z => meanCases_run 2 5 z) [0, 1, 2] = true := by kernel_rfl
theorem meanCases_r_2_5_3 : allL (fun z => meanCases_run 2 5 z) [3] = true := by kernel_rfl
end Go.Proofs.YtogemcnajcaeoaaGreatDoor
