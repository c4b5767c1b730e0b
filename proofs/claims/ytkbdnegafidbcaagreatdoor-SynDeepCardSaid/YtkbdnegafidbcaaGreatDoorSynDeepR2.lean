/- SynDeep: runs. No conditions. -/
import Derived.Test.YtkbdnegafidbcaaGreatDoorSynDeepV
namespace Go.Proofs.YtkbdnegafidbcaaGreatDoor
open Go.Ex
theorem synDeep_r_2 : allL (fun z => synDeep_run z) [2] = true := by kernel_rfl
end Go.Proofs.YtkbdnegafidbcaaGreatDoor
