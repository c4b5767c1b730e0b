/- LiftNests: the run of the law, some of its calls told. No conditions. -/
import Derived.Test.YtgpiepdkcpkokaaGreatDoorLiftNestsE0
namespace Go.Proofs.YtgpiepdkcpkokaaGreatDoor
open Go.Ex
noncomputable def liftNests_ov (r0 : Nat) (r1 : Nat) : OV := (liftNests_ov_x_x r0 r1)
theorem liftNests_ovok {sy : Nat → Value} (r0 : Nat) (r1 : Nat) (hb : OvOk sy Tryz.prog (liftNests_base r0 r1)) (hb0 : OvOk sy Tryz.prog liftNests_base0) : OvOk sy Tryz.prog (liftNests_ov r0 r1) := by
  unfold liftNests_ov
  exact liftNests_ovok_x_x r0 r1 hb0 hb
noncomputable def liftNests_run (r0 : Nat) (r1 : Nat) : Bool := isT (topF Tryz.prog (liftNests_ov r0 r1) liftNests_mk 10000000 3 [.sym 0, .sym 1] (Go.Ex.start (gsFrom 277 liftNests_tabs 1024 liftNests_errs) (esFrom 1024 liftNests_errs)))
end Go.Proofs.YtgpiepdkcpkokaaGreatDoor
