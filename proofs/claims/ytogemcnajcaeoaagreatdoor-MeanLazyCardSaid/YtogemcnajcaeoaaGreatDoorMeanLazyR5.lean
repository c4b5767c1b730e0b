/- MeanLazy: runs. No conditions. -/
import Derived.Test.YtogemcnajcaeoaaGreatDoorMeanLazyD
namespace Go.Proofs.YtogemcnajcaeoaaGreatDoor
open Go.Ex
theorem meanLazy_r_7_2 : allL (fun z => meanLazy_run 7 z) [2, 3] = true := by kernel_rfl
end Go.Proofs.YtogemcnajcaeoaaGreatDoor
