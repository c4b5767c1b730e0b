/- ScopeShadows: runs. No conditions. -/
import Derived.Test.YtknljgjjaifjhaaGreatDoorScopeShadowsD
namespace Go.Proofs.YtknljgjjaifjhaaGreatDoor
open Go.Ex
theorem scopeShadows_r_18_2 : allL (fun z => scopeShadows_run 18 z) [2] = true := by kernel_rfl
theorem scopeShadows_r_19_0 : allL (fun z => scopeShadows_run 19 z) [0] = true := by kernel_rfl
theorem scopeShadows_r_19_1 : allL (fun z => scopeShadows_run 19 z) [1] = true := by kernel_rfl
theorem scopeShadows_r_19_2 : allL (fun z => scopeShadows_run 19 z) [2] = true := by kernel_rfl
end Go.Proofs.YtknljgjjaifjhaaGreatDoor
