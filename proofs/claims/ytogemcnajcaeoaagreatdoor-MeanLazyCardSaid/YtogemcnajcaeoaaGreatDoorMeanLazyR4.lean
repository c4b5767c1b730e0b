/- MeanLazy: runs. No conditions. -/
import Derived.Test.YtogemcnajcaeoaaGreatDoorMeanLazyD
namespace Go.Proofs.YtogemcnajcaeoaaGreatDoor
open Go.Ex
theorem meanLazy_r_6_0 : allL (fun z => meanLazy_run 6 z) [0, 1] = true := by kernel_rfl
theorem meanLazy_r_6_2 : allL (fun z => meanLazy_run 6 z) [2, 3] = true := by kernel_rfl
theorem meanLazy_r_7_0 : allL (fun z => meanLazy_run 7 z) [0, 1] = true := by kernel_rfl
end Go.Proofs.YtogemcnajcaeoaaGreatDoor
