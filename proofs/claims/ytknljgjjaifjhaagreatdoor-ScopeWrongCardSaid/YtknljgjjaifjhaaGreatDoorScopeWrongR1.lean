/- ScopeWrong: runs. No conditions. -/
import Derived.Test.YtknljgjjaifjhaaGreatDoorScopeWrongD
namespace Go.Proofs.YtknljgjjaifjhaaGreatDoor
open Go.Ex
theorem scopeWrong_r_3_0 : allL (fun z => scopeWrong_run 3 z) [0, 1, 2, 3, 4] = true := by kernel_rfl
theorem scopeWrong_r_4_0 : allL (fun z => scopeWrong_run 4 z) [0, 1, 2, 3, 4] = true := by kernel_rfl
theorem scopeWrong_r_5_0 : allL (fun z => scopeWrong_run 5 z) [0, 1, 2, 3, 4] = true := by kernel_rfl
end Go.Proofs.YtknljgjjaifjhaaGreatDoor
