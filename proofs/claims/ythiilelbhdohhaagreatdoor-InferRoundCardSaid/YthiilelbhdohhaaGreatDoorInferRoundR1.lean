/- InferRound: runs. No conditions. -/
import Derived.Test.YthiilelbhdohhaaGreatDoorInferRoundV
namespace Go.Proofs.YthiilelbhdohhaaGreatDoor
open Go.Ex
theorem inferRound_r_6 : allL (fun z => inferRound_run z) [6, 7] = true := by kernel_rfl
theorem inferRound_r_8 : allL (fun z => inferRound_run z) [8, 9] = true := by kernel_rfl
theorem inferRound_r_10 : allL (fun z => inferRound_run z) [10, 11] = true := by kernel_rfl
end Go.Proofs.YthiilelbhdohhaaGreatDoor
