/- GrinBranches: runs. No conditions. -/
import Derived.Test.YtoidogfnjpmceaaDoorGrinBranchesD
namespace Go.Proofs.YtoidogfnjpmceaaDoor
open Go.Ex
theorem grinBranches_r_2_0 : allL (fun z => grinBranches_run 2 z) [0, 1, 2] = true := by kernel_rfl
theorem grinBranches_r_3_0 : allL (fun z => grinBranches_run 3 z) [0, 1, 2] = true := by kernel_rfl
end Go.Proofs.YtoidogfnjpmceaaDoor
