/- ScopeShadows: runs. No conditions. -/
import Derived.Test.YtknljgjjaifjhaaGreatDoorScopeShadowsD
namespace Go.Proofs.YtknljgjjaifjhaaGreatDoor
open Go.Ex
theorem scopeShadows_r_10_2 : allL (fun z => scopeShadows_run 10 z) [2] = true := by kernel_rfl
theorem scopeShadows_r_11_0 : allL (fun z => scopeShadows_run 11 z) [0] = true := by kernel_rfl
theorem scopeShadows_r_11_1 : allL (fun z => scopeShadows_run 11 z) [1] = true := by kernel_rfl
theorem scopeShadows_r_11_2 : allL (fun z => scopeShadows_run 11 z) [2] = true := by kernel_rfl
theorem scopeShadows_r_12_0 : allL (fun z => scopeShadows_run 12 z) [0] = true := by kernel_rfl
theorem scopeShadows_r_12_1 : allL (fun z => scopeShadows_run 12 z) [1] = true := by kernel_rfl
theorem scopeShadows_r_12_2 : allL (fun z => scopeShadows_run 12 z) [2] = true := by kernel_rfl
theorem scopeShadows_r_13_0 : allL (fun z => scopeShadows_run 13 z) [0] = true := by kernel_rfl
end Go.Proofs.YtknljgjjaifjhaaGreatDoor
