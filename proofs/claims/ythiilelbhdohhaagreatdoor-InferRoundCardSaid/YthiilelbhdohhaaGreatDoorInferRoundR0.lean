/- InferRound: runs. No conditions. -/
import Derived.Test.YthiilelbhdohhaaGreatDoorInferRoundV
namespace Go.Proofs.YthiilelbhdohhaaGreatDoor
open Go.Ex
theorem inferRound_r_0 : allL (fun z => inferRound_run z) [0, 1] = true := by kernel_rfl
theorem inferRound_r_2 : allL (fun z => inferRound_run z) [2, 3] = true := by kernel_rfl
theorem inferRound_r_4 : allL (fun z => inferRound_run z) [4, 5] = true := by kernel_rfl
end Go.Proofs.YthiilelbhdohhaaGreatDoor
