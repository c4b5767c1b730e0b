/- SynDeep: the run of the law, some of its calls told. No conditions. -/
import Derived.Test.YtkbdnegafidbcaaGreatDoorSynDeepE0
import Derived.Test.YtkbdnegafidbcaaGreatDoorSynDeepE1
import Derived.Test.YtkbdnegafidbcaaGreatDoorSynDeepE2
import Derived.Test.YtkbdnegafidbcaaGreatDoorSynDeepE3
import Derived.Test.YtkbdnegafidbcaaGreatDoorSynDeepE4
namespace Go.Proofs.YtkbdnegafidbcaaGreatDoor
open Go.Ex
noncomputable def synDeep_ov (r0 : Nat) : OV := (bi (Nat.beq r0 0) synDeep_ov_0 (bi (Nat.beq r0 1) synDeep_ov_1 (bi (Nat.beq r0 2) synDeep_ov_2 (bi (Nat.beq r0 3) synDeep_ov_3 (bi (Nat.beq r0 4) synDeep_ov_4 (synDeep_base r0))))))
theorem synDeep_ovok {sy : Nat → Value} (r0 : Nat) (hb : OvOk sy Tryz.prog (synDeep_base r0)) : OvOk sy Tryz.prog (synDeep_ov r0) := by
  unfold synDeep_ov
  rw [bi_eq]
  split
  · rename_i h
    have h0 := h
    obtain rfl := Nat.eq_of_beq_eq_true h0
    exact synDeep_ovok_0 hb
  rw [bi_eq]
  split
  · rename_i h
    have h0 := h
    obtain rfl := Nat.eq_of_beq_eq_true h0
    exact synDeep_ovok_1 hb
  rw [bi_eq]
  split
  · rename_i h
    have h0 := h
    obtain rfl := Nat.eq_of_beq_eq_true h0
    exact synDeep_ovok_2 hb
  rw [bi_eq]
  split
  · rename_i h
    have h0 := h
    obtain rfl := Nat.eq_of_beq_eq_true h0
    exact synDeep_ovok_3 hb
  rw [bi_eq]
  split
  · rename_i h
    have h0 := h
    obtain rfl := Nat.eq_of_beq_eq_true h0
    exact synDeep_ovok_4 hb
  exact hb
noncomputable def synDeep_run (r0 : Nat) : Bool := isT (topF Tryz.prog (synDeep_ov r0) synDeep_mk 10000000 3 [.sym 0] (Go.Ex.start (gsFrom 275 synDeep_tabs 1024 synDeep_errs) (esFrom 1024 synDeep_errs)))
end Go.Proofs.YtkbdnegafidbcaaGreatDoor
