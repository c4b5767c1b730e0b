/- GrinBranches: runs. No conditions. -/
import Derived.Test.YtoidogfnjpmceaaDoorGrinBranchesD
namespace Go.Proofs.YtoidogfnjpmceaaDoor
open Go.Ex
theorem grinBranches_r_0_0 : allL (fun z => grinBranches_run 0 z) [0, 1, 2] = true := by kernel_rfl
theorem grinBranches_r_1_0 : allL (fun z => grinBranches_run 1 z) [0, 1, 2] = true := by kernel_rfl
end Go.Proofs.YtoidogfnjpmceaaDoor
