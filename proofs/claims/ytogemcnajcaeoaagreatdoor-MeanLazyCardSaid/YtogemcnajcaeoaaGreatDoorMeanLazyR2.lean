/- MeanLazy: runs. No conditions. -/
import Derived.Test.YtogemcnajcaeoaaGreatDoorMeanLazyD
namespace Go.Proofs.YtogemcnajcaeoaaGreatDoor
open Go.Ex
theorem meanLazy_r_3_0 : allL (fun z => meanLazy_run 3 z) [0, 1] = true := by kernel_rfl
theorem meanLazy_r_3_2 : allL (fun z => meanLazy_run 3 z) [2, 3] = true := by kernel_rfl
theorem meanLazy_r_4_0 : allL (fun z => meanLazy_run 4 z) [0, 1] = true := by kernel_rfl
end Go.Proofs.YtogemcnajcaeoaaGreatDoor
