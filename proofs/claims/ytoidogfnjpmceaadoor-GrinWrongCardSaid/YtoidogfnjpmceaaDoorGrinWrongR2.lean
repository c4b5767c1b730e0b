/- GrinWrong: runs. No conditions. -/
import Derived.Test.YtoidogfnjpmceaaDoorGrinWrongD
namespace Go.Proofs.YtoidogfnjpmceaaDoor
open Go.Ex
theorem grinWrong_r_4_0 : allL (fun z => grinWrong_run 4 z) [0, 1, 2, 3, 4] = true := by kernel_rfl
theorem grinWrong_r_5_0 : allL (fun z => grinWrong_run 5 z) [0, 1, 2, 3, 4] = true := by kernel_rfl
end Go.Proofs.YtoidogfnjpmceaaDoor
