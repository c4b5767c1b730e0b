/- MeanLazy: runs. No conditions. -/
import Derived.Test.YtogemcnajcaeoaaGreatDoorMeanLazyD
namespace Go.Proofs.YtogemcnajcaeoaaGreatDoor
open Go.Ex
theorem meanLazy_r_0_0 : allL (fun z => meanLazy_run 0 z) [0, 1] = true := by kernel_rfl
theorem meanLazy_r_0_2 : allL (fun z => meanLazy_run 0 z) [2, 3] = true := by kernel_rfl
theorem meanLazy_r_1_0 : allL (fun z => meanLazy_run 1 z) [0, 1] = true := by kernel_rfl
end Go.Proofs.YtogemcnajcaeoaaGreatDoor
