/- DepsHides: runs. No conditions. -/
import Derived.Test.YtaoigapdkfjegaaGreatDoorDepsHidesD
namespace Go.Proofs.YtaoigapdkfjegaaGreatDoor
open Go.Ex
theorem depsHides_r_2 : allL (fun z => depsHides_run z) [2] = true := by kernel_rfl
theorem depsHides_r_3 : allL (fun z => depsHides_run z) [3] = true := by kernel_rfl
end Go.Proofs.YtaoigapdkfjegaaGreatDoor
