/- GrinWrong: runs. No conditions. -/
import Derived.Test.YtoidogfnjpmceaaDoorGrinWrongD
namespace Go.Proofs.YtoidogfnjpmceaaDoor
open Go.Ex
theorem grinWrong_r_2_0 : allL (fun z => grinWrong_run 2 z) [0, 1, 2, 3, 4] = true := by kernel_rfl
theorem grinWrong_r_3_0 : allL (fun z => grinWrong_run 3 z) [0, 1, 2, 3, 4] = true := by kernel_rfl
end Go.Proofs.YtoidogfnjpmceaaDoor
