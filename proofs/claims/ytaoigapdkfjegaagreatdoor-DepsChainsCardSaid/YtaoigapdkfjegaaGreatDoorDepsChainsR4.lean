/- DepsChains: runs. No conditions. -/
import Derived.Test.YtaoigapdkfjegaaGreatDoorDepsChainsD
namespace Go.Proofs.YtaoigapdkfjegaaGreatDoor
open Go.Ex
theorem depsChains_r_8_false : allL (fun z => depsChains_run 8 z) [false] = true := by kernel_rfl
theorem depsChains_r_8_true : allL (fun z => depsChains_run 8 z) [true] = true := by kernel_rfl
end Go.Proofs.YtaoigapdkfjegaaGreatDoor
