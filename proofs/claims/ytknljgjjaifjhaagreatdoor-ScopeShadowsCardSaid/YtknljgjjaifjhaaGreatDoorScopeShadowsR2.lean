/- ScopeShadows: runs. No conditions. -/
import Derived.Test.YtknljgjjaifjhaaGreatDoorScopeShadowsD
namespace Go.Proofs.YtknljgjjaifjhaaGreatDoor
open Go.Ex
theorem scopeShadows_r_5_1 : allL (fun z => scopeShadows_run 5 z) [1] = true := by kernel_rfl
theorem scopeShadows_r_5_2 : allL (fun z => scopeShadows_run 5 z) [2] = true := by kernel_rfl
theorem scopeShadows_r_6_0 : allL (fun z => scopeShadows_run 6 z) [0] = true := by kernel_rfl
theorem scopeShadows_r_6_1 : allL (fun z => scopeShadows_run 6 z) [1] = true := by kernel_rfl
theorem scopeShadows_r_6_2 : allL (fun z => scopeShadows_run 6 z) [2] = true := by kernel_rfl
theorem scopeShadows_r_7_0 : allL (fun z => scopeShadows_run 7 z) [0] = true := by kernel_rfl
theorem scopeShadows_r_7_1 : allL (fun z => scopeShadows_run 7 z) [1] = true := by kernel_rfl
theorem scopeShadows_r_7_2 : allL (fun z => scopeShadows_run 7 z) [2] = true := by kernel_rfl
end Go.Proofs.YtknljgjjaifjhaaGreatDoor
