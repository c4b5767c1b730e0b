/- SynDeep: runs. No conditions. -/
import Derived.Test.YtkbdnegafidbcaaGreatDoorSynDeepV
namespace Go.Proofs.YtkbdnegafidbcaaGreatDoor
open Go.Ex
theorem synDeep_r_0 : allL (fun z => synDeep_run z) [0] = true := by kernel_rfl
end Go.Proofs.YtkbdnegafidbcaaGreatDoor
