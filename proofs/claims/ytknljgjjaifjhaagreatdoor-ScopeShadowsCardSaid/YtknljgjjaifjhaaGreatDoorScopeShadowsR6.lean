/- ScopeShadows: runs. No conditions. -/
import Derived.Test.YtknljgjjaifjhaaGreatDoorScopeShadowsD
namespace Go.Proofs.YtknljgjjaifjhaaGreatDoor
open Go.Ex
theorem scopeShadows_r_16_0 : allL (fun z => scopeShadows_run 16 z) [0] = true := by kernel_rfl
theorem scopeShadows_r_16_1 : allL (fun z => scopeShadows_run 16 z) [1] = true := by kernel_rfl
theorem scopeShadows_r_16_2 : allL (fun z => scopeShadows_run 16 z) [2] = true := by kernel_rfl
theorem scopeShadows_r_17_0 : allL (fun z => scopeShadows_run 17 z) [0] = true := by kernel_rfl
theorem scopeShadows_r_17_1 : allL (fun z => scopeShadows_run 17 z) [1] = true := by kernel_rfl
theorem scopeShadows_r_17_2 : allL (fun z => scopeShadows_run 17 z) [2] = true := by kernel_rfl
theorem scopeShadows_r_18_0 : allL (fun z => scopeShadows_run 18 z) [0] = true := by kernel_rfl
theorem scopeShadows_r_18_1 : allL (fun z => scopeShadows_run 18 z) [1] = true := by kernel_rfl
end Go.Proofs.YtknljgjjaifjhaaGreatDoor
