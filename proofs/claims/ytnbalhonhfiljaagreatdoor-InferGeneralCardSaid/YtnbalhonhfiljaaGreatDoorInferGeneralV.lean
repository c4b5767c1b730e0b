/- InferGeneral: the run of the law, some of its calls told. No conditions. -/
import Derived.Test.YtnbalhonhfiljaaGreatDoorInferGeneralE0
namespace Go.Proofs.YtnbalhonhfiljaaGreatDoor
open Go.Ex
noncomputable def inferGeneral_ov (r0 : Nat) : OV := (bi (Nat.beq r0 0) inferGeneral_ov_0 (bi (Nat.beq r0 1) inferGeneral_ov_1 (bi (Nat.beq r0 2) inferGeneral_ov_2 (bi (Nat.beq r0 3) inferGeneral_ov_3 (bi (Nat.beq r0 4) inferGeneral_ov_4 (inferGeneral_base r0))))))
theorem inferGeneral_ovok {sy : Nat → Value} (r0 : Nat) (hb : OvOk sy Tryz.prog (inferGeneral_base r0)) : OvOk sy Tryz.prog (inferGeneral_ov r0) := by
  unfold inferGeneral_ov
  rw [bi_eq]
  split
  · rename_i h
    have h0 := h
    obtain rfl := Nat.eq_of_beq_eq_true h0
    exact inferGeneral_ovok_0 hb
  rw [bi_eq]
  split
  · rename_i h
    have h0 := h
    obtain rfl := Nat.eq_of_beq_eq_true h0
    exact inferGeneral_ovok_1 hb
  rw [bi_eq]
  split
  · rename_i h
    have h0 := h
    obtain rfl := Nat.eq_of_beq_eq_true h0
    exact inferGeneral_ovok_2 hb
  rw [bi_eq]
  split
  · rename_i h
    have h0 := h
    obtain rfl := Nat.eq_of_beq_eq_true h0
    exact inferGeneral_ovok_3 hb
  rw [bi_eq]
  split
  · rename_i h
    have h0 := h
    obtain rfl := Nat.eq_of_beq_eq_true h0
    exact inferGeneral_ovok_4 hb
  exact hb
noncomputable def inferGeneral_run (r0 : Nat) : Bool := isT (topF Tryz.prog (inferGeneral_ov r0) inferGeneral_mk 10000000 3 [.sym 0] (Go.Ex.start (gsFrom 266 inferGeneral_tabs 1024 inferGeneral_errs) (esFrom 1024 inferGeneral_errs)))
end Go.Proofs.YtnbalhonhfiljaaGreatDoor
