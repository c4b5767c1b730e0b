/- DepsChains: runs. No conditions. -/
import Derived.Test.YtaoigapdkfjegaaGreatDoorDepsChainsD
namespace Go.Proofs.YtaoigapdkfjegaaGreatDoor
open Go.Ex
theorem depsChains_r_6_false : allL (fun z => depsChains_run 6 z) [false] = true := by kernel_rfl
theorem depsChains_r_6_true : allL (fun z => depsChains_run 6 z) [true] = true := by kernel_rfl
theorem depsChains_r_7_false : allL (fun z => depsChains_run 7 z) [false] = true := by kernel_rfl
theorem depsChains_r_7_true : allL (fun z => depsChains_run 7 z) [true] = true := by kernel_rfl
end Go.Proofs.YtaoigapdkfjegaaGreatDoor
