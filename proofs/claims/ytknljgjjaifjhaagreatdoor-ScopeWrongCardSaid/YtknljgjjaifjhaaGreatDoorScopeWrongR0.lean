/- ScopeWrong: runs. No conditions. -/
import Derived.Test.YtknljgjjaifjhaaGreatDoorScopeWrongD
namespace Go.Proofs.YtknljgjjaifjhaaGreatDoor
open Go.Ex
theorem scopeWrong_r_0_0 : allL (fun z => scopeWrong_run 0 z) [0, 1, 2, 3, 4] = true := by kernel_rfl
theorem scopeWrong_r_1_0 : allL (fun z => scopeWrong_run 1 z) [0, 1, 2, 3, 4] = true := by kernel_rfl
theorem scopeWrong_r_2_0 : allL (fun z => scopeWrong_run 2 z) [0, 1, 2, 3, 4] = true := by kernel_rfl
end Go.Proofs.YtknljgjjaifjhaaGreatDoor
