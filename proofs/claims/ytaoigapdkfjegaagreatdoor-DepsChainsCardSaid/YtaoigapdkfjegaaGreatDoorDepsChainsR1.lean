/- DepsChains: runs. No conditions. -/
import Derived.Test.YtaoigapdkfjegaaGreatDoorDepsChainsD
namespace Go.Proofs.YtaoigapdkfjegaaGreatDoor
open Go.Ex
theorem depsChains_r_2_false : allL (fun z => depsChains_run 2 z) [false] = true := by kernel_rfl
theorem depsChains_r_2_true : allL (fun z => depsChains_run 2 z) [true] = true := by kernel_rfl
theorem depsChains_r_3_false : allL (fun z => depsChains_run 3 z) [false] = true := by kernel_rfl
theorem depsChains_r_3_true : allL (fun z => depsChains_run 3 z) [true] = true := by kernel_rfl
end Go.Proofs.YtaoigapdkfjegaaGreatDoor
