/- ScopeShadows: runs. No conditions. -/
import Derived.Test.YtknljgjjaifjhaaGreatDoorScopeShadowsD
namespace Go.Proofs.YtknljgjjaifjhaaGreatDoor
open Go.Ex
theorem scopeShadows_r_8_0 : allL (fun z => scopeShadows_run 8 z) [0] = true := by kernel_rfl
theorem scopeShadows_r_8_1 : allL (fun z => scopeShadows_run 8 z) [1] = true := by kernel_rfl
theorem scopeShadows_r_8_2 : allL (fun z => scopeShadows_run 8 z) [2] = true := by kernel_rfl
theorem scopeShadows_r_9_0 : allL (fun z => scopeShadows_run 9 z) [0] = true := by kernel_rfl
theorem scopeShadows_r_9_1 : allL (fun z => scopeShadows_run 9 z) [1] = true := by kernel_rfl
theorem scopeShadows_r_9_2 : allL (fun z => scopeShadows_run 9 z) [2] = true := by kernel_rfl
theorem scopeShadows_r_10_0 : allL (fun z => scopeShadows_run 10 z) [0] = true := by kernel_rfl
theorem scopeShadows_r_10_1 : allL (fun z => scopeShadows_run 10 z) [1] = true := by kernel_rfl
end Go.Proofs.YtknljgjjaifjhaaGreatDoor
