/- InferWrong: runs. No conditions. -/
import Derived.Test.YtnbalhonhfiljaaGreatDoorInferWrongD
namespace Go.Proofs.YtnbalhonhfiljaaGreatDoor
open Go.Ex
theorem inferWrong_r_3_2_0_z0 : inferWrong_run 3 2 0 = true := by kernel_rfl
theorem inferWrong_r_3_2_0_z1 : inferWrong_run 3 2 1 = true := by kernel_rfl
theorem inferWrong_r_3_2_0_z2 : inferWrong_run 3 2 2 = true := by kernel_rfl
theorem inferWrong_r_3_2_0 : allL (fun z => inferWrong_run 3 2 z) [0, 1, 2] = true := by
  refine allL_mem.2 fun z hz => ?_
  simp only [List.mem_cons, List.not_mem_nil, or_false] at hz
  rcases hz with rfl | rfl | rfl
  · exact inferWrong_r_3_2_0_z0
  · exact inferWrong_r_3_2_0_z1
  · exact inferWrong_r_3_2_0_z2
theorem inferWrong_r_3_2_3_z3 : inferWrong_run 3 2 3 = true := by kernel_rfl
theorem inferWrong_r_3_2_3_z4 : inferWrong_run 3 2 4 = true := by kernel_rfl
theorem inferWrong_r_3_2_3_z5 : inferWrong_run 3 2 5 = true := by kernel_rfl
theorem inferWrong_r_3_2_3 : allL (fun z => inferWrong_run 3 2 z) [3, 4, 5] = true := by
  refine allL_mem.2 fun z hz => ?_
  simp only [List.mem_cons, List.not_mem_nil, or_false] at hz
  rcases hz with rfl | rfl | rfl
  · exact inferWrong_r_3_2_3_z3
  · exact inferWrong_r_3_2_3_z4
  · exact inferWrong_r_3_2_3_z5
theorem inferWrong_r_3_3_0_z0 : inferWrong_run 3 3 0 = true := by kernel_rfl
theorem inferWrong_r_3_3_0_z1 : inferWrong_run 3 3 1 = true := by kernel_rfl
theorem inferWrong_r_3_3_0_z2 : inferWrong_run 3 3 2 = true := by kernel_rfl
theorem inferWrong_r_3_3_0 : allL (fun z => inferWrong_run 3 3 z) [0, 1, 2] = true := by
  refine allL_mem.2 fun z hz => ?_
  simp only [List.mem_cons, List.not_mem_nil, or_false] at hz
  rcases hz with rfl | rfl | rfl
  · exact inferWrong_r_3_3_0_z0
  · exact inferWrong_r_3_3_0_z1
  · exact inferWrong_r_3_3_0_z2
theorem inferWrong_r_3_3_3_z3 : inferWrong_run 3 3 3 = true := by kernel_rfl
theorem inferWrong_r_3_3_3_z4 : inferWrong_run 3 3 4 = true := by kernel_rfl
theorem inferWrong_r_3_3_3_z5 : inferWrong_run 3 3 5 = true := by kernel_rfl
theorem inferWrong_r_3_3_3 : allL (fun z => inferWrong_run 3 3 z) [3, 4, 5] = true := by
  refine allL_mem.2 fun z hz => ?_
  simp only [List.mem_cons, List.not_mem_nil, or_false] at hz
  rcases hz with rfl | rfl | rfl
  · exact inferWrong_r_3_3_3_z3
  · exact inferWrong_r_3_3_3_z4
  · exact inferWrong_r_3_3_3_z5
end Go.Proofs.YtnbalhonhfiljaaGreatDoor
