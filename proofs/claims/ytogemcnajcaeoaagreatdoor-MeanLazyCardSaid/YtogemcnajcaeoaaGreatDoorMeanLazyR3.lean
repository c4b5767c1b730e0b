/- MeanLazy: runs. No conditions. -/
import Derived.Test.YtogemcnajcaeoaaGreatDoorMeanLazyD
namespace Go.Proofs.YtogemcnajcaeoaaGreatDoor
open Go.Ex
theorem meanLazy_r_4_2 : allL (fun z => meanLazy_run 4 z) [2, 3] = true := by kernel_rfl
theorem meanLazy_r_5_0 : allL (fun z => meanLazy_run 5 z) [0, 1] = true := by kernel_rfl
theorem meanLazy_r_5_2 : allL (fun z => meanLazy_run 5 z) [2, 3] = true := by kernel_rfl
end Go.Proofs.YtogemcnajcaeoaaGreatDoor
