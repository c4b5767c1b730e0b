/- TreeDeep: runs. No conditions. -/
import Derived.Test.YtlblhlnpmdfblaaDoorTreeDeepD
namespace Go.Proofs.YtlblhlnpmdfblaaDoor
open Go.Ex
theorem treeDeep_r_3_1 : allL (fun z => treeDeep_run 3 z) [1] = true := by kernel_rfl
theorem treeDeep_r_3_2 : allL (fun z => treeDeep_run 3 z) [2] = true := by kernel_rfl
theorem treeDeep_r_4_0 : allL (fun z => treeDeep_run 4 z) [0] = true := by kernel_rfl
theorem treeDeep_r_4_1 : allL (fun z => treeDeep_run 4 z) [1] = true := by kernel_rfl
theorem treeDeep_r_4_2 : allL (fun z => treeDeep_run 4 z) [2] = true := by kernel_rfl
end Go.Proofs.YtlblhlnpmdfblaaDoor
