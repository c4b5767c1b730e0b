/- InferRound: runs. No conditions. -/
import Derived.Test.YthiilelbhdohhaaGreatDoorInferRoundV
namespace Go.Proofs.YthiilelbhdohhaaGreatDoor
open Go.Ex
theorem inferRound_r_18 : allL (fun z => inferRound_run z) [18, 19] = true := by kernel_rfl
theorem inferRound_r_20 : allL (fun z => inferRound_run z) [20, 21] = true := by kernel_rfl
end Go.Proofs.YthiilelbhdohhaaGreatDoor
