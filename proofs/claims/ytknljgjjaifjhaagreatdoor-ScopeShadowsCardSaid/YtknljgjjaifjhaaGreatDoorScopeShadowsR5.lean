/- ScopeShadows: runs. No conditions. -/
import Derived.Test.YtknljgjjaifjhaaGreatDoorScopeShadowsD
namespace Go.Proofs.YtknljgjjaifjhaaGreatDoor
open Go.Ex
theorem scopeShadows_r_13_1 : allL (fun z => scopeShadows_run 13 z) [1] = true := by kernel_rfl
theorem scopeShadows_r_13_2 : allL (fun z => scopeShadows_run 13 z) [2] = true := by kernel_rfl
theorem scopeShadows_r_14_0 : allL (fun z => scopeShadows_run 14 z) [0] = true := by kernel_rfl
theorem scopeShadows_r_14_1 : allL (fun z => scopeShadows_run 14 z) [1] = true := by kernel_rfl
theorem scopeShadows_r_14_2 : allL (fun z => scopeShadows_run 14 z) [2] = true := by kernel_rfl
theorem scopeShadows_r_15_0 : allL (fun z => scopeShadows_run 15 z) [0] = true := by kernel_rfl
theorem scopeShadows_r_15_1 : allL (fun z => scopeShadows_run 15 z) [1] = true := by kernel_rfl
theorem scopeShadows_r_15_2 : allL (fun z => scopeShadows_run 15 z) [2] = true := by kernel_rfl
end Go.Proofs.YtknljgjjaifjhaaGreatDoor
