/- InferWrong: runs. No conditions. -/
import Derived.Test.YtnbalhonhfiljaaGreatDoorInferWrongD
namespace Go.Proofs.YtnbalhonhfiljaaGreatDoor
open Go.Ex
theorem inferWrong_r_1_0_0 : allL (fun z => inferWrong_run 1 0 z) [0, 1, 2] = true := by kernel_rfl
theorem inferWrong_r_1_0_3 : allL (fun z => inferWrong_run 1 0 z) [3, 4, 5] = true := by kernel_rfl
theorem inferWrong_r_1_1_0 : allL (fun z => inferWrong_run 1 1 z) [0, 1, 2] = true := by kernel_rfl
theorem inferWrong_r_1_1_3 : allL (fun z => inferWrong_run 1 1 z) [3, 4, 5] = true := by kernel_rfl
end Go.Proofs.YtnbalhonhfiljaaGreatDoor
