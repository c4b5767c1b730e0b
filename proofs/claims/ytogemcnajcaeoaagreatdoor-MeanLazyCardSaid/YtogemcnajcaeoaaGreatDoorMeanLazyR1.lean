/- MeanLazy: runs. No conditions. -/
import Derived.Test.YtogemcnajcaeoaaGreatDoorMeanLazyD
namespace Go.Proofs.YtogemcnajcaeoaaGreatDoor
open Go.Ex
theorem meanLazy_r_1_2 : allL (fun z => meanLazy_run 1 z) [2, 3] = true := by kernel_rfl
theorem meanLazy_r_2_0 : allL (fun z => meanLazy_run 2 z) [0, 1] = true := by kernel_rfl
theorem meanLazy_r_2_2 : allL (fun z => meanLazy_run 2 z) [2, 3] = true := by kernel_rfl
end Go.Proofs.YtogemcnajcaeoaaGreatDoor
