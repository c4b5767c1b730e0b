/- LiftNests: calls of its runs, each told by its own run. No conditions. -/
import Derived.Test.YtgpiepdkcpkokaaGreatDoorLiftNestsG
namespace Go.Proofs.YtgpiepdkcpkokaaGreatDoor
open Go.Ex
noncomputable def liftNests_e_x_x_0 : Ent := ⟨[], ⟨[(5, ⟨0, false, 20, [[.int .u64 (1), .int .u64 (10), .int .u64 (100), .int .u64 (1000), .int .u64 (10000), .int .u64 (100000), .int .u64 (1000000), .int .u64 (10000000), .int .u64 (100000000), .int .u64 (1000000000), .int .u64 (10000000000), .int .u64 (100000000000), .int .u64 (1000000000000), .int .u64 (10000000000000), .int .u64 (100000000000000), .int .u64 (1000000000000000), .int .u64 (10000000000000000), .int .u64 (100000000000000000), .int .u64 (1000000000000000000), .int .u64 (10000000000000000000)]], 1099511627776⟩)], [], 2048, []⟩, .bool true, ⟨[(5, ⟨0, false, 20, [[.int .u64 (1), .int .u64 (10), .int .u64 (100), .int .u64 (1000), .int .u64 (10000), .int .u64 (100000), .int .u64 (1000000), .int .u64 (10000000), .int .u64 (100000000), .int .u64 (1000000000), .int .u64 (10000000000), .int .u64 (100000000000), .int .u64 (1000000000000), .int .u64 (10000000000000), .int .u64 (100000000000000), .int .u64 (1000000000000000), .int .u64 (10000000000000000), .int .u64 (100000000000000000), .int .u64 (1000000000000000000), .int .u64 (10000000000000000000)]], 1099511627776⟩)], [], 3141, []⟩⟩
noncomputable def liftNests_x_x_x_0 : OV := liftNests_base0
theorem liftNests_xok_x_x_0 {sy : Nat → Value} (hb : OvOk sy Tryz.prog liftNests_base0) : OvOk sy Tryz.prog liftNests_x_x_x_0 := hb
theorem liftNests_er_x_x_0 : entRun Tryz.prog liftNests_x_x_x_0 liftNests_mk 10000000 4 liftNests_e_x_x_0 = true := by kernel_rfl
noncomputable def liftNests_ov_x_x (r0 : Nat) (r1 : Nat) : OV := (T.set (liftNests_base r0 r1) 4 (hSub [liftNests_e_x_x_0]))
theorem liftNests_ovok_x_x {sy : Nat → Value} (r0 : Nat) (r1 : Nat) (hb : OvOk sy Tryz.prog liftNests_base0) (hx : OvOk sy Tryz.prog (liftNests_base r0 r1)) : OvOk sy Tryz.prog (liftNests_ov_x_x r0 r1) := (liftNests_told hx liftNests_en4 (liftNests_cons ⟨_, liftNests_xok_x_x_0 hb, liftNests_er_x_x_0⟩ liftNests_nil))
end Go.Proofs.YtgpiepdkcpkokaaGreatDoor
