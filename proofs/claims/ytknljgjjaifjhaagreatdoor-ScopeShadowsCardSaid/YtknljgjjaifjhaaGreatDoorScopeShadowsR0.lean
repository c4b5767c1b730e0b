/- ScopeShadows: runs. No conditions. -/
import Derived.Test.YtknljgjjaifjhaaGreatDoorScopeShadowsD
namespace Go.Proofs.YtknljgjjaifjhaaGreatDoor
open Go.Ex
theorem scopeShadows_r_0_0 : allL (fun z => scopeShadows_run 0 z) [0] = true := by kernel_rfl
theorem scopeShadows_r_0_1 : allL (fun z => scopeShadows_run 0 z) [1] = true := by kernel_rfl
theorem scopeShadows_r_0_2 : allL (fun z => scopeShadows_run 0 z) [2] = true := by kernel_rfl
theorem scopeShadows_r_1_0 : allL (fun z => scopeShadows_run 1 z) [0] = true := by kernel_rfl
theorem scopeShadows_r_1_1 : allL (fun z => scopeShadows_run 1 z) [1] = true := by kernel_rfl
theorem scopeShadows_r_1_2 : allL (fun z => scopeShadows_run 1 z) [2] = true := by kernel_rfl
theorem scopeShadows_r_2_0 : allL (fun z => scopeShadows_run 2 z) [0] = true := by kernel_rfl
theorem scopeShadows_r_2_1 : allL (fun z => scopeShadows_run 2 z) [1] = true := by kernel_rfl
end Go.Proofs.YtknljgjjaifjhaaGreatDoor
