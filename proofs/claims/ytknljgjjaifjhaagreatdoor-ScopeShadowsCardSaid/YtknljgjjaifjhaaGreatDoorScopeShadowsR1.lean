/- ScopeShadows: runs. No conditions. -/
import Derived.Test.YtknljgjjaifjhaaGreatDoorScopeShadowsD
namespace Go.Proofs.YtknljgjjaifjhaaGreatDoor
open Go.Ex
theorem scopeShadows_r_2_2 : allL (fun z => scopeShadows_run 2 z) [2] = true := by kernel_rfl
theorem scopeShadows_r_3_0 : allL (fun z => scopeShadows_run 3 z) [0] = true := by kernel_rfl
theorem scopeShadows_r_3_1 : allL (fun z => scopeShadows_run 3 z) [1] = true := by kernel_rfl
theorem scopeShadows_r_3_2 : allL (fun z => scopeShadows_run 3 z) [2] = true := by kernel_rfl
theorem scopeShadows_r_4_0 : allL (fun z => scopeShadows_run 4 z) [0] = true := by kernel_rfl
theorem scopeShadows_r_4_1 : allL (fun z => scopeShadows_run 4 z) [1] = true := by kernel_rfl
theorem scopeShadows_r_4_2 : allL (fun z => scopeShadows_run 4 z) [2] = true := by kernel_rfl
theorem scopeShadows_r_5_0 : allL (fun z => scopeShadows_run 5 z) [0] = true := by kernel_rfl
end Go.Proofs.YtknljgjjaifjhaaGreatDoor
