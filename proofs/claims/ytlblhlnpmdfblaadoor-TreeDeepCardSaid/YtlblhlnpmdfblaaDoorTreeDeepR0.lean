/- TreeDeep: runs. No conditions. -/
import Derived.Test.YtlblhlnpmdfblaaDoorTreeDeepD
namespace Go.Proofs.YtlblhlnpmdfblaaDoor
open Go.Ex
theorem treeDeep_r_0_0 : allL (fun z => treeDeep_run 0 z) [0] = true := by kernel_rfl
theorem treeDeep_r_0_1 : allL (fun z => treeDeep_run 0 z) [1] = true := by kernel_rfl
theorem treeDeep_r_0_2 : allL (fun z => treeDeep_run 0 z) [2] = true := by kernel_rfl
theorem treeDeep_r_1_0 : allL (fun z => treeDeep_run 1 z) [0] = true := by kernel_rfl
theorem treeDeep_r_1_1 : allL (fun z => treeDeep_run 1 z) [1] = true := by kernel_rfl
end Go.Proofs.YtlblhlnpmdfblaaDoor
