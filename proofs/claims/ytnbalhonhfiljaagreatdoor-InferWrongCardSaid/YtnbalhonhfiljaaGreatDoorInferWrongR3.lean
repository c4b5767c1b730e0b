/- InferWrong: runs. No conditions. -/
import Derived.Test.YtnbalhonhfiljaaGreatDoorInferWrongD
namespace Go.Proofs.YtnbalhonhfiljaaGreatDoor
open Go.Ex
theorem inferWrong_r_1_2_0 : allL (fun z => inferWrong_run 1 2 z) [0, 1, 2] = true := by kernel_rfl
theorem inferWrong_r_1_2_3 : allL (fun z => inferWrong_run 1 2 z) [3, 4, 5] = true := by kernel_rfl
theorem inferWrong_r_1_3_0 : allL (fun z => inferWrong_run 1 3 z) [0, 1, 2] = true := by kernel_rfl
theorem inferWrong_r_1_3_3 : allL (fun z => inferWrong_run 1 3 z) [3, 4, 5] = true := by kernel_rfl
end Go.Proofs.YtnbalhonhfiljaaGreatDoor
