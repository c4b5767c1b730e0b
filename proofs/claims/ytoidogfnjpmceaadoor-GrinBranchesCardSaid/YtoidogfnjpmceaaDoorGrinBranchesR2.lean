/- GrinBranches: runs. No conditions. -/
import Derived.Test.YtoidogfnjpmceaaDoorGrinBranchesD
namespace Go.Proofs.YtoidogfnjpmceaaDoor
open Go.Ex
theorem grinBranches_r_4_0 : allL (fun z => grinBranches_run 4 z) [0, 1, 2] = true := by kernel_rfl
end Go.Proofs.YtoidogfnjpmceaaDoor
