/- SynLimits: the run of the law, some of its calls told. No conditions. -/
import Derived.Test.YtcnihampedieaaaGreatDoorSynLimitsE0
import Derived.Test.YtcnihampedieaaaGreatDoorSynLimitsE1
import Derived.Test.YtcnihampedieaaaGreatDoorSynLimitsE2
namespace Go.Proofs.YtcnihampedieaaaGreatDoor
open Go.Ex
noncomputable def synLimits_ov_2_2 : OV := (T.set (T.set (synLimits_base 2 2) 16 (hSub [synLimits_e_2_2_1, synLimits_e_2_2_2, synLimits_e_2_2_4])) 32 (hSub [synLimits_e_2_2_0, synLimits_e_2_2_3]))
theorem synLimits_ovok_2_2 {sy : Nat → Value} (hb : OvOk sy Tryz.prog (synLimits_base 2 2)) : OvOk sy Tryz.prog synLimits_ov_2_2 := (hSub_ok (hSub_ok hb hb ⟨_, Tryz.func16, by kernel_rfl, by kernel_rfl⟩ (fun e he => by
      simp only [List.mem_cons, List.not_mem_nil, or_false] at he
      rcases he with rfl | rfl | rfl
      · exact synLimits_er_2_2_1
      · exact synLimits_er_2_2_2
      · exact synLimits_er_2_2_4)) hb ⟨_, Tryz.func32, by kernel_rfl, by kernel_rfl⟩ (fun e he => by
      simp only [List.mem_cons, List.not_mem_nil, or_false] at he
      rcases he with rfl | rfl
      · exact synLimits_er_2_2_0
      · exact synLimits_er_2_2_3))
noncomputable def synLimits_ov_1_2 : OV := (T.set (T.set (synLimits_base 1 2) 16 (hSub [synLimits_e_1_2_1, synLimits_e_1_2_2, synLimits_e_1_2_4])) 32 (hSub [synLimits_e_1_2_0, synLimits_e_1_2_3]))
theorem synLimits_ovok_1_2 {sy : Nat → Value} (hb : OvOk sy Tryz.prog (synLimits_base 1 2)) : OvOk sy Tryz.prog synLimits_ov_1_2 := (hSub_ok (hSub_ok hb hb ⟨_, Tryz.func16, by kernel_rfl, by kernel_rfl⟩ (fun e he => by
      simp only [List.mem_cons, List.not_mem_nil, or_false] at he
      rcases he with rfl | rfl | rfl
      · exact synLimits_er_1_2_1
      · exact synLimits_er_1_2_2
      · exact synLimits_er_1_2_4)) hb ⟨_, Tryz.func32, by kernel_rfl, by kernel_rfl⟩ (fun e he => by
      simp only [List.mem_cons, List.not_mem_nil, or_false] at he
      rcases he with rfl | rfl
      · exact synLimits_er_1_2_0
      · exact synLimits_er_1_2_3))
noncomputable def synLimits_ov_0_2 : OV := (T.set (T.set (synLimits_base 0 2) 16 (hSub [synLimits_e_0_2_1, synLimits_e_0_2_2, synLimits_e_0_2_4])) 32 (hSub [synLimits_e_0_2_0, synLimits_e_0_2_3]))
theorem synLimits_ovok_0_2 {sy : Nat → Value} (hb : OvOk sy Tryz.prog (synLimits_base 0 2)) : OvOk sy Tryz.prog synLimits_ov_0_2 := (hSub_ok (hSub_ok hb hb ⟨_, Tryz.func16, by kernel_rfl, by kernel_rfl⟩ (fun e he => by
      simp only [List.mem_cons, List.not_mem_nil, or_false] at he
      rcases he with rfl | rfl | rfl
      · exact synLimits_er_0_2_1
      · exact synLimits_er_0_2_2
      · exact synLimits_er_0_2_4)) hb ⟨_, Tryz.func32, by kernel_rfl, by kernel_rfl⟩ (fun e he => by
      simp only [List.mem_cons, List.not_mem_nil, or_false] at he
      rcases he with rfl | rfl
      · exact synLimits_er_0_2_0
      · exact synLimits_er_0_2_3))
noncomputable def synLimits_ov (r0 : Nat) (r1 : Nat) : OV := (bi ((Nat.beq r0 0).and (Nat.beq r1 2)) synLimits_ov_0_2 (bi ((Nat.beq r0 1).and (Nat.beq r1 2)) synLimits_ov_1_2 (bi ((Nat.beq r0 2).and (Nat.beq r1 2)) synLimits_ov_2_2 (synLimits_base r0 r1))))
theorem synLimits_ovok {sy : Nat → Value} (r0 : Nat) (r1 : Nat) (hb : OvOk sy Tryz.prog (synLimits_base r0 r1)) : OvOk sy Tryz.prog (synLimits_ov r0 r1) := by
  unfold synLimits_ov
  rw [bi_eq]
  split
  · rename_i h
    simp only [and_true'] at h
    obtain ⟨h0, h1⟩ := h
    obtain rfl := Nat.eq_of_beq_eq_true h0
    obtain rfl := Nat.eq_of_beq_eq_true h1
    exact synLimits_ovok_0_2 hb
  rw [bi_eq]
  split
  · rename_i h
    simp only [and_true'] at h
    obtain ⟨h0, h1⟩ := h
    obtain rfl := Nat.eq_of_beq_eq_true h0
    obtain rfl := Nat.eq_of_beq_eq_true h1
    exact synLimits_ovok_1_2 hb
  rw [bi_eq]
  split
  · rename_i h
    simp only [and_true'] at h
    obtain ⟨h0, h1⟩ := h
    obtain rfl := Nat.eq_of_beq_eq_true h0
    obtain rfl := Nat.eq_of_beq_eq_true h1
    exact synLimits_ovok_2_2 hb
  exact hb
noncomputable def synLimits_run (r0 : Nat) (r1 : Nat) : Bool := isT (topF Tryz.prog (synLimits_ov r0 r1) synLimits_mk 10000000 6 [.sym 0, .sym 1] (Go.Ex.start (gsFrom 349 synLimits_tabs 1024 synLimits_errs) (esFrom 1024 synLimits_errs)))
end Go.Proofs.YtcnihampedieaaaGreatDoor
