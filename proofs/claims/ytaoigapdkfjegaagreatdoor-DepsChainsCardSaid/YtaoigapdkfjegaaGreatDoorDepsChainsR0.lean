/- DepsChains: runs. No conditions. -/
import Derived.Test.YtaoigapdkfjegaaGreatDoorDepsChainsD
namespace Go.Proofs.YtaoigapdkfjegaaGreatDoor
open Go.Ex
theorem depsChains_r_0_false : allL (fun z => depsChains_run 0 z) [false] = true := by kernel_rfl
theorem depsChains_r_0_true : allL (fun z => depsChains_run 0 z) [true] = true := by kernel_rfl
theorem depsChains_r_1_false : allL (fun z => depsChains_run 1 z) [false] = true := by kernel_rfl
theorem depsChains_r_1_true : allL (fun z => depsChains_run 1 z) [true] = true := by kernel_rfl
end Go.Proofs.YtaoigapdkfjegaaGreatDoor
