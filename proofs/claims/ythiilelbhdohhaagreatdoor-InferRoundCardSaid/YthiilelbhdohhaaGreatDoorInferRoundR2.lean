/- InferRound: runs. No conditions. -/
import Derived.Test.YthiilelbhdohhaaGreatDoorInferRoundV
namespace Go.Proofs.YthiilelbhdohhaaGreatDoor
open Go.Ex
theorem inferRound_r_12 : allL (fun z => inferRound_run z) [12, 13] = true := by kernel_rfl
theorem inferRound_r_14 : allL (fun z => inferRound_run z) [14, 15] = true := by kernel_rfl
theorem inferRound_r_16 : allL (fun z => inferRound_run z) [16, 17] = true := by kernel_rfl
end Go.Proofs.YthiilelbhdohhaaGreatDoor
