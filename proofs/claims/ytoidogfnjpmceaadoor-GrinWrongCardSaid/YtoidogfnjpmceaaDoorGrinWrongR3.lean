/- GrinWrong: runs. No conditions. -/
import Derived.Test.YtoidogfnjpmceaaDoorGrinWrongD
namespace Go.Proofs.YtoidogfnjpmceaaDoor
open Go.Ex
theorem grinWrong_r_6_0 : allL (fun z => grinWrong_run 6 z) [0, 1, 2, 3, 4] = true := by kernel_rfl
theorem grinWrong_r_7_0 : allL (fun z => grinWrong_run 7 z) [0, 1, 2, 3, 4] = true := by kernel_rfl
end Go.Proofs.YtoidogfnjpmceaaDoor
