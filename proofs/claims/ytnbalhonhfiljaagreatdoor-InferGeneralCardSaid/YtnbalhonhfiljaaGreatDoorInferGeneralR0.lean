/- InferGeneral: runs. No conditions. -/
import Derived.Test.YtnbalhonhfiljaaGreatDoorInferGeneralV
namespace Go.Proofs.YtnbalhonhfiljaaGreatDoor
open Go.Ex
theorem inferGeneral_r_0 : allL (fun z => inferGeneral_run z) [0] = true := by kernel_rfl
theorem inferGeneral_r_1 : allL (fun z => inferGeneral_run z) [1] = true := by kernel_rfl
theorem inferGeneral_r_2 : allL (fun z => inferGeneral_run z) [2] = true := by kernel_rfl
theorem inferGeneral_r_3 : allL (fun z => inferGeneral_run z) [3] = true := by kernel_rfl
theorem inferGeneral_r_4 : allL (fun z => inferGeneral_run z) [4] = true := by kernel_rfl
end Go.Proofs.YtnbalhonhfiljaaGreatDoor
