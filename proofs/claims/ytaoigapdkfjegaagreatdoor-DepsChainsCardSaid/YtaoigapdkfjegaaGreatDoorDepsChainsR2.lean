/- DepsChains: runs. No conditions. -/
import Derived.Test.YtaoigapdkfjegaaGreatDoorDepsChainsD
namespace Go.Proofs.YtaoigapdkfjegaaGreatDoor
open Go.Ex
theorem depsChains_r_4_false : allL (fun z => depsChains_run 4 z) [false] = true := by kernel_rfl
theorem depsChains_r_4_true : allL (fun z => depsChains_run 4 z) [true] = true := by kernel_rfl
theorem depsChains_r_5_false : allL (fun z => depsChains_run 5 z) [false] = true := by kernel_rfl
theorem depsChains_r_5_true : allL (fun z => depsChains_run 5 z) [true] = true := by kernel_rfl
end Go.Proofs.YtaoigapdkfjegaaGreatDoor
