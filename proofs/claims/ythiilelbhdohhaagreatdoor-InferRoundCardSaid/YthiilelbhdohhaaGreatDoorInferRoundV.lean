/- InferRound: the run of the law, some of its calls told. No conditions. -/
import Derived.Test.YthiilelbhdohhaaGreatDoorInferRoundE0
namespace Go.Proofs.YthiilelbhdohhaaGreatDoor
open Go.Ex
noncomputable def inferRound_ov (r0 : Nat) : OV := (inferRound_ov_x r0)
theorem inferRound_ovok {sy : Nat → Value} (r0 : Nat) (hb : OvOk sy Tryz.prog (inferRound_base r0)) (hb0 : OvOk sy Tryz.prog inferRound_base0) : OvOk sy Tryz.prog (inferRound_ov r0) := by
  unfold inferRound_ov
  exact inferRound_ovok_x r0 hb0 hb
noncomputable def inferRound_run (r0 : Nat) : Bool := isT (topF Tryz.prog (inferRound_ov r0) inferRound_mk 10000000 3 [.sym (inferRound_J0 r0)] (Go.Ex.start (gsFrom 264 inferRound_tabs 1024 inferRound_errs) (esFrom 1024 inferRound_errs)))
end Go.Proofs.YthiilelbhdohhaaGreatDoor
