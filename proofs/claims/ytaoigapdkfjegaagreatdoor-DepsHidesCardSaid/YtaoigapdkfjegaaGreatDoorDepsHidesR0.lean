/- DepsHides: runs. No conditions. -/
import Derived.Test.YtaoigapdkfjegaaGreatDoorDepsHidesD
namespace Go.Proofs.YtaoigapdkfjegaaGreatDoor
open Go.Ex
theorem depsHides_r_0 : allL (fun z => depsHides_run z) [0] = true := by kernel_rfl
theorem depsHides_r_1 : allL (fun z => depsHides_run z) [1] = true := by kernel_rfl
end Go.Proofs.YtaoigapdkfjegaaGreatDoor
