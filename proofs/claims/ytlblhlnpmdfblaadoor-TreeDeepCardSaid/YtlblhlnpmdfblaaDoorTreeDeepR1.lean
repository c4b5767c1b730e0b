/- TreeDeep: runs. No conditions. -/
import Derived.Test.YtlblhlnpmdfblaaDoorTreeDeepD
namespace Go.Proofs.YtlblhlnpmdfblaaDoor
open Go.Ex
theorem treeDeep_r_1_2 : allL (fun z => treeDeep_run 1 z) [2] = true := by kernel_rfl
theorem treeDeep_r_2_0 : allL (fun z => treeDeep_run 2 z) [0] = true := by kernel_rfl
theorem treeDeep_r_2_1 : allL (fun z => treeDeep_run 2 z) [1] = true := by kernel_rfl
theorem treeDeep_r_2_2 : allL (fun z => treeDeep_run 2 z) [2] = true := by kernel_rfl
theorem treeDeep_r_3_0 : allL (fun z => treeDeep_run 3 z) [0] = true := by kernel_rfl
end Go.Proofs.YtlblhlnpmdfblaaDoor
