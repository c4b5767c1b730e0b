/- ScopeWrong: runs. No conditions. -/
import Derived.Test.YtknljgjjaifjhaaGreatDoorScopeWrongD
namespace Go.Proofs.YtknljgjjaifjhaaGreatDoor
open Go.Ex
theorem scopeWrong_r_6_0 : allL (fun z => scopeWrong_run 6 z) [0, 1, 2, 3, 4] = true := by kernel_rfl
end Go.Proofs.YtknljgjjaifjhaaGreatDoor
