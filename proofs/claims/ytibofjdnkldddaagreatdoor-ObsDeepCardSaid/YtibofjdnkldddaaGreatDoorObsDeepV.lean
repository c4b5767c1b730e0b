/- ObsDeep: the run of the law, some of its calls told. No conditions. -/
import Derived.Test.YtibofjdnkldddaaGreatDoorObsDeepE0
namespace Go.Proofs.YtibofjdnkldddaaGreatDoor
open Go.Ex
noncomputable def obsDeep_ov (r0 : Nat) (r1 : Nat) : OV := (bi (Nat.beq r0 0) (obsDeep_ov_0_x r1) (bi (Nat.beq r0 1) (obsDeep_ov_1_x r1) (bi (Nat.beq r0 2) (obsDeep_ov_2_x r1) (bi (Nat.beq r0 3) (obsDeep_ov_3_x r1) (obsDeep_base r0 r1)))))
theorem obsDeep_ovok {sy : Nat → Value} (r0 : Nat) (r1 : Nat) (hb : OvOk sy Tryz.prog (obsDeep_base r0 r1)) (hb0 : OvOk sy Tryz.prog obsDeep_base0) : OvOk sy Tryz.prog (obsDeep_ov r0 r1) := by
  unfold obsDeep_ov
  rw [bi_eq]
  split
  · rename_i h
    have h0 := h
    obtain rfl := Nat.eq_of_beq_eq_true h0
    exact obsDeep_ovok_0_x r1 hb0 hb
  rw [bi_eq]
  split
  · rename_i h
    have h0 := h
    obtain rfl := Nat.eq_of_beq_eq_true h0
    exact obsDeep_ovok_1_x r1 hb0 hb
  rw [bi_eq]
  split
  · rename_i h
    have h0 := h
    obtain rfl := Nat.eq_of_beq_eq_true h0
    exact obsDeep_ovok_2_x r1 hb0 hb
  rw [bi_eq]
  split
  · rename_i h
    have h0 := h
    obtain rfl := Nat.eq_of_beq_eq_true h0
    exact obsDeep_ovok_3_x r1 hb0 hb
  exact hb
noncomputable def obsDeep_run (r0 : Nat) (r1 : Nat) : Bool := isT (topF Tryz.prog (obsDeep_ov r0 r1) obsDeep_mk 10000000 3 [.sym 0, .sym 1] (Go.Ex.start (gsFrom 166 obsDeep_tabs 1024 obsDeep_errs) (esFrom 1024 obsDeep_errs)))
end Go.Proofs.YtibofjdnkldddaaGreatDoor
