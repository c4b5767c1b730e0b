/- GrinWrong: runs. No conditions. -/
import Derived.Test.YtoidogfnjpmceaaDoorGrinWrongD
namespace Go.Proofs.YtoidogfnjpmceaaDoor
open Go.Ex
theorem grinWrong_r_0_0 : allL (fun z => grinWrong_run 0 z) [0, 1, 2, 3, 4] = true := by kernel_rfl
theorem grinWrong_r_1_0 : allL (fun z => grinWrong_run 1 z) [0, 1, 2, 3, 4] = true := by kernel_rfl
end Go.Proofs.YtoidogfnjpmceaaDoor
