/- MeanCases: called with any arguments, the law answers true, and what lay in memory stands. Conditions: the listed variables read as start-up lays them. -/
import Derived.Test.YtogemcnajcaeoaaGreatDoorMeanCasesR0
import Derived.Test.YtogemcnajcaeoaaGreatDoorMeanCasesR1
import Derived.Test.YtogemcnajcaeoaaGreatDoorMeanCasesR2
import Derived.Test.YtogemcnajcaeoaaGreatDoorMeanCasesR3
import Derived.Test.YtogemcnajcaeoaaGreatDoorMeanCasesR4
import Derived.Test.YtogemcnajcaeoaaGreatDoorMeanCasesR5
import Derived.Test.YtogemcnajcaeoaaGreatDoorMeanCasesR6
import Derived.Test.YtogemcnajcaeoaaGreatDoorMeanCasesR7
import Derived.Test.YtogemcnajcaeoaaGreatDoorMeanCasesR8
import Derived.Test.YtogemcnajcaeoaaGreatDoorMeanCasesR9
import Derived.Test.YtogemcnajcaeoaaGreatDoorMeanCasesR10
import Derived.Test.YtogemcnajcaeoaaGreatDoorMeanCasesR11
import Derived.Test.YtogemcnajcaeoaaGreatDoorMeanCasesR12
import Derived.Test.YtogemcnajcaeoaaGreatDoorMeanCasesR13
import Derived.Test.YtogemcnajcaeoaaGreatDoorMeanCasesR14
import Derived.Test.YtogemcnajcaeoaaGreatDoorMeanCasesR15
import Derived.Test.YtogemcnajcaeoaaGreatDoorMeanCasesR16
import Derived.Test.YtogemcnajcaeoaaGreatDoorMeanCasesR17
import Derived.Test.YtogemcnajcaeoaaGreatDoorMeanCasesR18
import Derived.Test.YtogemcnajcaeoaaGreatDoorMeanCasesR19
import Derived.Test.YtogemcnajcaeoaaGreatDoorMeanCasesR20
import Derived.Test.YtogemcnajcaeoaaGreatDoorMeanCasesR21
import Derived.Test.YtogemcnajcaeoaaGreatDoorMeanCasesR22
import Derived.Test.YtogemcnajcaeoaaGreatDoorMeanCasesR23
import Derived.Test.YtogemcnajcaeoaaGreatDoorNumber
import Derived.Test.YtogemcnajcaeoaaGreatDoorBld
import Derived.Test.YtogemcnajcaeoaaGreatDoorFmt
namespace Go.Proofs.YtogemcnajcaeoaaGreatDoor
open Go.Ex
theorem meanCases_wrap {n : Int} (h : (Lit.int .i64 n).wf = true) : IntKind.i64.wrap n = n := by
  simp only [Lit.wf, Bool.and_eq_true, decide_eq_true_eq] at h
  obtain ⟨h1, h2⟩ := h
  have e1 : IntKind.i64.min = -9223372036854775808 := by decide
  have e2 : IntKind.i64.max = 9223372036854775807 := by decide
  rw [e1] at h1
  rw [e2] at h2
  have e3 : IntKind.i64.wrap n = if n % 18446744073709551616 ≥ 9223372036854775808 then n % 18446744073709551616 - 18446744073709551616 else n % 18446744073709551616 := by
    unfold IntKind.wrap
    simp [IntKind.bits, IntKind.signed]
  rw [e3]
  split <;> omega
theorem meanCases_all : ∀ (r0 : Nat) (r1 : Nat) (r2 : Nat), r0 < 6 → r1 < 8 → r2 < 4 → meanCases_run r0 r1 r2 = true := by
  intro r0 r1 r2 h0 h1 h2
  have m0 : r0 ∈ [0, 1, 2, 3, 4, 5] := by simp; omega
  have m1 : r1 ∈ [0, 1, 2, 3, 4, 5, 6, 7] := by simp; omega
  have m2 : r2 ∈ [0, 1, 2, 3] := by simp; omega
  have k_0_0 : ∀ z ∈ [0, 1, 2, 3], meanCases_run 0 0 z = true := fun z hz => by
      simp only [List.mem_cons, List.not_mem_nil, or_false] at hz
      rcases hz with rfl | rfl | rfl | rfl
      · exact allL_mem.1 meanCases_r_0_0_0 0 (by simp)
      · exact allL_mem.1 meanCases_r_0_0_0 1 (by simp)
      · exact allL_mem.1 meanCases_r_0_0_0 2 (by simp)
      · exact allL_mem.1 meanCases_r_0_0_3 3 (by simp)
  have k_0_1 : ∀ z ∈ [0, 1, 2, 3], meanCases_run 0 1 z = true := fun z hz => by
      simp only [List.mem_cons, List.not_mem_nil, or_false] at hz
      rcases hz with rfl | rfl | rfl | rfl
      · exact allL_mem.1 meanCases_r_0_1_0 0 (by simp)
      · exact allL_mem.1 meanCases_r_0_1_0 1 (by simp)
      · exact allL_mem.1 meanCases_r_0_1_0 2 (by simp)
      · exact allL_mem.1 meanCases_r_0_1_3 3 (by simp)
  have k_0_2 : ∀ z ∈ [0, 1, 2, 3], meanCases_run 0 2 z = true := fun z hz => by
      simp only [List.mem_cons, List.not_mem_nil, or_false] at hz
      rcases hz with rfl | rfl | rfl | rfl
      · exact allL_mem.1 meanCases_r_0_2_0 0 (by simp)
      · exact allL_mem.1 meanCases_r_0_2_0 1 (by simp)
      · exact allL_mem.1 meanCases_r_0_2_0 2 (by simp)
      · exact allL_mem.1 meanCases_r_0_2_3 3 (by simp)
  have k_0_3 : ∀ z ∈ [0, 1, 2, 3], meanCases_run 0 3 z = true := fun z hz => by
      simp only [List.mem_cons, List.not_mem_nil, or_false] at hz
      rcases hz with rfl | rfl | rfl | rfl
      · exact allL_mem.1 meanCases_r_0_3_0 0 (by simp)
      · exact allL_mem.1 meanCases_r_0_3_0 1 (by simp)
      · exact allL_mem.1 meanCases_r_0_3_0 2 (by simp)
      · exact allL_mem.1 meanCases_r_0_3_3 3 (by simp)
  have k_0_4 : ∀ z ∈ [0, 1, 2, 3], meanCases_run 0 4 z = true := fun z hz => by
      simp only [List.mem_cons, List.not_mem_nil, or_false] at hz
      rcases hz with rfl | rfl | rfl | rfl
      · exact allL_mem.1 meanCases_r_0_4_0 0 (by simp)
      · exact allL_mem.1 meanCases_r_0_4_0 1 (by simp)
      · exact allL_mem.1 meanCases_r_0_4_0 2 (by simp)
      · exact allL_mem.1 meanCases_r_0_4_3 3 (by simp)
  have k_0_5 : ∀ z ∈ [0, 1, 2, 3], meanCases_run 0 5 z = true := fun z hz => by
      simp only [List.mem_cons, List.not_mem_nil, or_false] at hz
      rcases hz with rfl | rfl | rfl | rfl
      · exact allL_mem.1 meanCases_r_0_5_0 0 (by simp)
      · exact allL_mem.1 meanCases_r_0_5_0 1 (by simp)
      · exact allL_mem.1 meanCases_r_0_5_0 2 (by simp)
      · exact allL_mem.1 meanCases_r_0_5_3 3 (by simp)
  have k_0_6 : ∀ z ∈ [0, 1, 2, 3], meanCases_run 0 6 z = true := fun z hz => by
      simp only [List.mem_cons, List.not_mem_nil, or_false] at hz
      rcases hz with rfl | rfl | rfl | rfl
      · exact allL_mem.1 meanCases_r_0_6_0 0 (by simp)
      · exact allL_mem.1 meanCases_r_0_6_0 1 (by simp)
      · exact allL_mem.1 meanCases_r_0_6_0 2 (by simp)
      · exact allL_mem.1 meanCases_r_0_6_3 3 (by simp)
  have k_0_7 : ∀ z ∈ [0, 1, 2, 3], meanCases_run 0 7 z = true := fun z hz => by
      simp only [List.mem_cons, List.not_mem_nil, or_false] at hz
      rcases hz with rfl | rfl | rfl | rfl
      · exact allL_mem.1 meanCases_r_0_7_0 0 (by simp)
      · exact allL_mem.1 meanCases_r_0_7_0 1 (by simp)
      · exact allL_mem.1 meanCases_r_0_7_0 2 (by simp)
      · exact allL_mem.1 meanCases_r_0_7_3 3 (by simp)
  have k_1_0 : ∀ z ∈ [0, 1, 2, 3], meanCases_run 1 0 z = true := fun z hz => by
      simp only [List.mem_cons, List.not_mem_nil, or_false] at hz
      rcases hz with rfl | rfl | rfl | rfl
      · exact allL_mem.1 meanCases_r_1_0_0 0 (by simp)
      · exact allL_mem.1 meanCases_r_1_0_0 1 (by simp)
      · exact allL_mem.1 meanCases_r_1_0_0 2 (by simp)
      · exact allL_mem.1 meanCases_r_1_0_3 3 (by simp)
  have k_1_1 : ∀ z ∈ [0, 1, 2, 3], meanCases_run 1 1 z = true := fun z hz => by
      simp only [List.mem_cons, List.not_mem_nil, or_false] at hz
      rcases hz with rfl | rfl | rfl | rfl
      · exact allL_mem.1 meanCases_r_1_1_0 0 (by simp)
      · exact allL_mem.1 meanCases_r_1_1_0 1 (by simp)
      · exact allL_mem.1 meanCases_r_1_1_0 2 (by simp)
      · exact allL_mem.1 meanCases_r_1_1_3 3 (by simp)
  have k_1_2 : ∀ z ∈ [0, 1, 2, 3], meanCases_run 1 2 z = true := fun z hz => by
      simp only [List.mem_cons, List.not_mem_nil, or_false] at hz
      rcases hz with rfl | rfl | rfl | rfl
      · exact allL_mem.1 meanCases_r_1_2_0 0 (by simp)
      · exact allL_mem.1 meanCases_r_1_2_0 1 (by simp)
      · exact allL_mem.1 meanCases_r_1_2_0 2 (by simp)
      · exact allL_mem.1 meanCases_r_1_2_3 3 (by simp)
  have k_1_3 : ∀ z ∈ [0, 1, 2, 3], meanCases_run 1 3 z = true := fun z hz => by
      simp only [List.mem_cons, List.not_mem_nil, or_false] at hz
      rcases hz with rfl | rfl | rfl | rfl
      · exact allL_mem.1 meanCases_r_1_3_0 0 (by simp)
      · exact allL_mem.1 meanCases_r_1_3_0 1 (by simp)
      · exact allL_mem.1 meanCases_r_1_3_0 2 (by simp)
      · exact allL_mem.1 meanCases_r_1_3_3 3 (by simp)
  have k_1_4 : ∀ z ∈ [0, 1, 2, 3], meanCases_run 1 4 z = true := fun z hz => by
      simp only [List.mem_cons, List.not_mem_nil, or_false] at hz
      rcases hz with rfl | rfl | rfl | rfl
      · exact allL_mem.1 meanCases_r_1_4_0 0 (by simp)
      · exact allL_mem.1 meanCases_r_1_4_0 1 (by simp)
      · exact allL_mem.1 meanCases_r_1_4_0 2 (by simp)
      · exact allL_mem.1 meanCases_r_1_4_3 3 (by simp)
  have k_1_5 : ∀ z ∈ [0, 1, 2, 3], meanCases_run 1 5 z = true := fun z hz => by
      simp only [List.mem_cons, List.not_mem_nil, or_false] at hz
      rcases hz with rfl | rfl | rfl | rfl
      · exact allL_mem.1 meanCases_r_1_5_0 0 (by simp)
      · exact allL_mem.1 meanCases_r_1_5_0 1 (by simp)
      · exact allL_mem.1 meanCases_r_1_5_0 2 (by simp)
      · exact allL_mem.1 meanCases_r_1_5_3 3 (by simp)
  have k_1_6 : ∀ z ∈ [0, 1, 2, 3], meanCases_run 1 6 z = true := fun z hz => by
      simp only [List.mem_cons, List.not_mem_nil, or_false] at hz
      rcases hz with rfl | rfl | rfl | rfl
      · exact allL_mem.1 meanCases_r_1_6_0 0 (by simp)
      · exact allL_mem.1 meanCases_r_1_6_0 1 (by simp)
      · exact allL_mem.1 meanCases_r_1_6_0 2 (by simp)
      · exact allL_mem.1 meanCases_r_1_6_3 3 (by simp)
  have k_1_7 : ∀ z ∈ [0, 1, 2, 3], meanCases_run 1 7 z = true := fun z hz => by
      simp only [List.mem_cons, List.not_mem_nil, or_false] at hz
      rcases hz with rfl | rfl | rfl | rfl
      · exact allL_mem.1 meanCases_r_1_7_0 0 (by simp)
      · exact allL_mem.1 meanCases_r_1_7_0 1 (by simp)
      · exact allL_mem.1 meanCases_r_1_7_0 2 (by simp)
      · exact allL_mem.1 meanCases_r_1_7_3 3 (by simp)
  have k_2_0 : ∀ z ∈ [0, 1, 2, 3], meanCases_run 2 0 z = true := fun z hz => by
      simp only [List.mem_cons, List.not_mem_nil, or_false] at hz
      rcases hz with rfl | rfl | rfl | rfl
      · exact allL_mem.1 meanCases_r_2_0_0 0 (by simp)
      · exact allL_mem.1 meanCases_r_2_0_0 1 (by simp)
      · exact allL_mem.1 meanCases_r_2_0_0 2 (by simp)
      · exact allL_mem.1 meanCases_r_2_0_3 3 (by simp)
  have k_2_1 : ∀ z ∈ [0, 1, 2, 3], meanCases_run 2 1 z = true := fun z hz => by
      simp only [List.mem_cons, List.not_mem_nil, or_false] at hz
      rcases hz with rfl | rfl | rfl | rfl
      · exact allL_mem.1 meanCases_r_2_1_0 0 (by simp)
      · exact allL_mem.1 meanCases_r_2_1_0 1 (by simp)
      · exact allL_mem.1 meanCases_r_2_1_0 2 (by simp)
      · exact allL_mem.1 meanCases_r_2_1_3 3 (by simp)
  have k_2_2 : ∀ z ∈ [0, 1, 2, 3], meanCases_run 2 2 z = true := fun z hz => by
      simp only [List.mem_cons, List.not_mem_nil, or_false] at hz
      rcases hz with rfl | rfl | rfl | rfl
      · exact allL_mem.1 meanCases_r_2_2_0 0 (by simp)
      · exact allL_mem.1 meanCases_r_2_2_0 1 (by simp)
      · exact allL_mem.1 meanCases_r_2_2_0 2 (by simp)
      · exact allL_mem.1 meanCases_r_2_2_3 3 (by simp)
  have k_2_3 : ∀ z ∈ [0, 1, 2, 3], meanCases_run 2 3 z = true := fun z hz => by
      simp only [List.mem_cons, List.not_mem_nil, or_false] at hz
      rcases hz with rfl | rfl | rfl | rfl
      · exact allL_mem.1 meanCases_r_2_3_0 0 (by simp)
      · exact allL_mem.1 meanCases_r_2_3_0 1 (by simp)
      · exact allL_mem.1 meanCases_r_2_3_0 2 (by simp)
      · exact allL_mem.1 meanCases_r_2_3_3 3 (by simp)
  have k_2_4 : ∀ z ∈ [0, 1, 2, 3], meanCases_run 2 4 z = true := fun z hz => by
      simp only [List.mem_cons, List.not_mem_nil, or_false] at hz
      rcases hz with rfl | rfl | rfl | rfl
      · exact allL_mem.1 meanCases_r_2_4_0 0 (by simp)
      · exact allL_mem.1 meanCases_r_2_4_0 1 (by simp)
      · exact allL_mem.1 meanCases_r_2_4_0 2 (by simp)
      · exact allL_mem.1 meanCases_r_2_4_3 3 (by simp)
  have k_2_5 : ∀ z ∈ [0, 1, 2, 3], meanCases_run 2 5 z = true := fun z hz => by
      simp only [List.mem_cons, List.not_mem_nil, or_false] at hz
      rcases hz with rfl | rfl | rfl | rfl
      · exact allL_mem.1 meanCases_r_2_5_0 0 (by simp)
      · exact allL_mem.1 meanCases_r_2_5_0 1 (by simp)
      · exact allL_mem.1 meanCases_r_2_5_0 2 (by simp)
      · exact allL_mem.1 meanCases_r_2_5_3 3 (by simp)
  have k_2_6 : ∀ z ∈ [0, 1, 2, 3], meanCases_run 2 6 z = true := fun z hz => by
      simp only [List.mem_cons, List.not_mem_nil, or_false] at hz
      rcases hz with rfl | rfl | rfl | rfl
      · exact allL_mem.1 meanCases_r_2_6_0 0 (by simp)
      · exact allL_mem.1 meanCases_r_2_6_0 1 (by simp)
      · exact allL_mem.1 meanCases_r_2_6_0 2 (by simp)
      · exact allL_mem.1 meanCases_r_2_6_3 3 (by simp)
  have k_2_7 : ∀ z ∈ [0, 1, 2, 3], meanCases_run 2 7 z = true := fun z hz => by
      simp only [List.mem_cons, List.not_mem_nil, or_false] at hz
      rcases hz with rfl | rfl | rfl | rfl
      · exact allL_mem.1 meanCases_r_2_7_0 0 (by simp)
      · exact allL_mem.1 meanCases_r_2_7_0 1 (by simp)
      · exact allL_mem.1 meanCases_r_2_7_0 2 (by simp)
      · exact allL_mem.1 meanCases_r_2_7_3 3 (by simp)
  have k_3_0 : ∀ z ∈ [0, 1, 2, 3], meanCases_run 3 0 z = true := fun z hz => by
      simp only [List.mem_cons, List.not_mem_nil, or_false] at hz
      rcases hz with rfl | rfl | rfl | rfl
      · exact allL_mem.1 meanCases_r_3_0_0 0 (by simp)
      · exact allL_mem.1 meanCases_r_3_0_0 1 (by simp)
      · exact allL_mem.1 meanCases_r_3_0_0 2 (by simp)
      · exact allL_mem.1 meanCases_r_3_0_3 3 (by simp)
  have k_3_1 : ∀ z ∈ [0, 1, 2, 3], meanCases_run 3 1 z = true := fun z hz => by
      simp only [List.mem_cons, List.not_mem_nil, or_false] at hz
      rcases hz with rfl | rfl | rfl | rfl
      · exact allL_mem.1 meanCases_r_3_1_0 0 (by simp)
      · exact allL_mem.1 meanCases_r_3_1_0 1 (by simp)
      · exact allL_mem.1 meanCases_r_3_1_0 2 (by simp)
      · exact allL_mem.1 meanCases_r_3_1_3 3 (by simp)
  have k_3_2 : ∀ z ∈ [0, 1, 2, 3], meanCases_run 3 2 z = true := fun z hz => by
      simp only [List.mem_cons, List.not_mem_nil, or_false] at hz
      rcases hz with rfl | rfl | rfl | rfl
      · exact allL_mem.1 meanCases_r_3_2_0 0 (by simp)
      · exact allL_mem.1 meanCases_r_3_2_0 1 (by simp)
      · exact allL_mem.1 meanCases_r_3_2_0 2 (by simp)
      · exact allL_mem.1 meanCases_r_3_2_3 3 (by simp)
  have k_3_3 : ∀ z ∈ [0, 1, 2, 3], meanCases_run 3 3 z = true := fun z hz => by
      simp only [List.mem_cons, List.not_mem_nil, or_false] at hz
      rcases hz with rfl | rfl | rfl | rfl
      · exact allL_mem.1 meanCases_r_3_3_0 0 (by simp)
      · exact allL_mem.1 meanCases_r_3_3_0 1 (by simp)
      · exact allL_mem.1 meanCases_r_3_3_0 2 (by simp)
      · exact allL_mem.1 meanCases_r_3_3_3 3 (by simp)
  have k_3_4 : ∀ z ∈ [0, 1, 2, 3], meanCases_run 3 4 z = true := fun z hz => by
      simp only [List.mem_cons, List.not_mem_nil, or_false] at hz
      rcases hz with rfl | rfl | rfl | rfl
      · exact allL_mem.1 meanCases_r_3_4_0 0 (by simp)
      · exact allL_mem.1 meanCases_r_3_4_0 1 (by simp)
      · exact allL_mem.1 meanCases_r_3_4_0 2 (by simp)
      · exact allL_mem.1 meanCases_r_3_4_3 3 (by simp)
  have k_3_5 : ∀ z ∈ [0, 1, 2, 3], meanCases_run 3 5 z = true := fun z hz => by
      simp only [List.mem_cons, List.not_mem_nil, or_false] at hz
      rcases hz with rfl | rfl | rfl | rfl
      · exact allL_mem.1 meanCases_r_3_5_0 0 (by simp)
      · exact allL_mem.1 meanCases_r_3_5_0 1 (by simp)
      · exact allL_mem.1 meanCases_r_3_5_0 2 (by simp)
      · exact allL_mem.1 meanCases_r_3_5_3 3 (by simp)
  have k_3_6 : ∀ z ∈ [0, 1, 2, 3], meanCases_run 3 6 z = true := fun z hz => by
      simp only [List.mem_cons, List.not_mem_nil, or_false] at hz
      rcases hz with rfl | rfl | rfl | rfl
      · exact allL_mem.1 meanCases_r_3_6_0 0 (by simp)
      · exact allL_mem.1 meanCases_r_3_6_0 1 (by simp)
      · exact allL_mem.1 meanCases_r_3_6_0 2 (by simp)
      · exact allL_mem.1 meanCases_r_3_6_3 3 (by simp)
  have k_3_7 : ∀ z ∈ [0, 1, 2, 3], meanCases_run 3 7 z = true := fun z hz => by
      simp only [List.mem_cons, List.not_mem_nil, or_false] at hz
      rcases hz with rfl | rfl | rfl | rfl
      · exact allL_mem.1 meanCases_r_3_7_0 0 (by simp)
      · exact allL_mem.1 meanCases_r_3_7_0 1 (by simp)
      · exact allL_mem.1 meanCases_r_3_7_0 2 (by simp)
      · exact allL_mem.1 meanCases_r_3_7_3 3 (by simp)
  have k_4_0 : ∀ z ∈ [0, 1, 2, 3], meanCases_run 4 0 z = true := fun z hz => by
      simp only [List.mem_cons, List.not_mem_nil, or_false] at hz
      rcases hz with rfl | rfl | rfl | rfl
      · exact allL_mem.1 meanCases_r_4_0_0 0 (by simp)
      · exact allL_mem.1 meanCases_r_4_0_0 1 (by simp)
      · exact allL_mem.1 meanCases_r_4_0_0 2 (by simp)
      · exact allL_mem.1 meanCases_r_4_0_3 3 (by simp)
  have k_4_1 : ∀ z ∈ [0, 1, 2, 3], meanCases_run 4 1 z = true := fun z hz => by
      simp only [List.mem_cons, List.not_mem_nil, or_false] at hz
      rcases hz with rfl | rfl | rfl | rfl
      · exact allL_mem.1 meanCases_r_4_1_0 0 (by simp)
      · exact allL_mem.1 meanCases_r_4_1_0 1 (by simp)
      · exact allL_mem.1 meanCases_r_4_1_0 2 (by simp)
      · exact allL_mem.1 meanCases_r_4_1_3 3 (by simp)
  have k_4_2 : ∀ z ∈ [0, 1, 2, 3], meanCases_run 4 2 z = true := fun z hz => by
      simp only [List.mem_cons, List.not_mem_nil, or_false] at hz
      rcases hz with rfl | rfl | rfl | rfl
      · exact allL_mem.1 meanCases_r_4_2_0 0 (by simp)
      · exact allL_mem.1 meanCases_r_4_2_0 1 (by simp)
      · exact allL_mem.1 meanCases_r_4_2_0 2 (by simp)
      · exact allL_mem.1 meanCases_r_4_2_3 3 (by simp)
  have k_4_3 : ∀ z ∈ [0, 1, 2, 3], meanCases_run 4 3 z = true := fun z hz => by
      simp only [List.mem_cons, List.not_mem_nil, or_false] at hz
      rcases hz with rfl | rfl | rfl | rfl
      · exact allL_mem.1 meanCases_r_4_3_0 0 (by simp)
      · exact allL_mem.1 meanCases_r_4_3_0 1 (by simp)
      · exact allL_mem.1 meanCases_r_4_3_0 2 (by simp)
      · exact allL_mem.1 meanCases_r_4_3_3 3 (by simp)
  have k_4_4 : ∀ z ∈ [0, 1, 2, 3], meanCases_run 4 4 z = true := fun z hz => by
      simp only [List.mem_cons, List.not_mem_nil, or_false] at hz
      rcases hz with rfl | rfl | rfl | rfl
      · exact allL_mem.1 meanCases_r_4_4_0 0 (by simp)
      · exact allL_mem.1 meanCases_r_4_4_0 1 (by simp)
      · exact allL_mem.1 meanCases_r_4_4_0 2 (by simp)
      · exact allL_mem.1 meanCases_r_4_4_3 3 (by simp)
  have k_4_5 : ∀ z ∈ [0, 1, 2, 3], meanCases_run 4 5 z = true := fun z hz => by
      simp only [List.mem_cons, List.not_mem_nil, or_false] at hz
      rcases hz with rfl | rfl | rfl | rfl
      · exact allL_mem.1 meanCases_r_4_5_0 0 (by simp)
      · exact allL_mem.1 meanCases_r_4_5_0 1 (by simp)
      · exact allL_mem.1 meanCases_r_4_5_0 2 (by simp)
      · exact allL_mem.1 meanCases_r_4_5_3 3 (by simp)
  have k_4_6 : ∀ z ∈ [0, 1, 2, 3], meanCases_run 4 6 z = true := fun z hz => by
      simp only [List.mem_cons, List.not_mem_nil, or_false] at hz
      rcases hz with rfl | rfl | rfl | rfl
      · exact allL_mem.1 meanCases_r_4_6_0 0 (by simp)
      · exact allL_mem.1 meanCases_r_4_6_0 1 (by simp)
      · exact allL_mem.1 meanCases_r_4_6_0 2 (by simp)
      · exact allL_mem.1 meanCases_r_4_6_3 3 (by simp)
  have k_4_7 : ∀ z ∈ [0, 1, 2, 3], meanCases_run 4 7 z = true := fun z hz => by
      simp only [List.mem_cons, List.not_mem_nil, or_false] at hz
      rcases hz with rfl | rfl | rfl | rfl
      · exact allL_mem.1 meanCases_r_4_7_0 0 (by simp)
      · exact allL_mem.1 meanCases_r_4_7_0 1 (by simp)
      · exact allL_mem.1 meanCases_r_4_7_0 2 (by simp)
      · exact allL_mem.1 meanCases_r_4_7_3 3 (by simp)
  have k_5_0 : ∀ z ∈ [0, 1, 2, 3], meanCases_run 5 0 z = true := fun z hz => by
      simp only [List.mem_cons, List.not_mem_nil, or_false] at hz
      rcases hz with rfl | rfl | rfl | rfl
      · exact allL_mem.1 meanCases_r_5_0_0 0 (by simp)
      · exact allL_mem.1 meanCases_r_5_0_0 1 (by simp)
      · exact allL_mem.1 meanCases_r_5_0_0 2 (by simp)
      · exact allL_mem.1 meanCases_r_5_0_3 3 (by simp)
  have k_5_1 : ∀ z ∈ [0, 1, 2, 3], meanCases_run 5 1 z = true := fun z hz => by
      simp only [List.mem_cons, List.not_mem_nil, or_false] at hz
      rcases hz with rfl | rfl | rfl | rfl
      · exact allL_mem.1 meanCases_r_5_1_0 0 (by simp)
      · exact allL_mem.1 meanCases_r_5_1_0 1 (by simp)
      · exact allL_mem.1 meanCases_r_5_1_0 2 (by simp)
      · exact allL_mem.1 meanCases_r_5_1_3 3 (by simp)
  have k_5_2 : ∀ z ∈ [0, 1, 2, 3], meanCases_run 5 2 z = true := fun z hz => by
      simp only [List.mem_cons, List.not_mem_nil, or_false] at hz
      rcases hz with rfl | rfl | rfl | rfl
      · exact allL_mem.1 meanCases_r_5_2_0 0 (by simp)
      · exact allL_mem.1 meanCases_r_5_2_0 1 (by simp)
      · exact allL_mem.1 meanCases_r_5_2_0 2 (by simp)
      · exact allL_mem.1 meanCases_r_5_2_3 3 (by simp)
  have k_5_3 : ∀ z ∈ [0, 1, 2, 3], meanCases_run 5 3 z = true := fun z hz => by
      simp only [List.mem_cons, List.not_mem_nil, or_false] at hz
      rcases hz with rfl | rfl | rfl | rfl
      · exact allL_mem.1 meanCases_r_5_3_0 0 (by simp)
      · exact allL_mem.1 meanCases_r_5_3_0 1 (by simp)
      · exact allL_mem.1 meanCases_r_5_3_0 2 (by simp)
      · exact allL_mem.1 meanCases_r_5_3_3 3 (by simp)
  have k_5_4 : ∀ z ∈ [0, 1, 2, 3], meanCases_run 5 4 z = true := fun z hz => by
      simp only [List.mem_cons, List.not_mem_nil, or_false] at hz
      rcases hz with rfl | rfl | rfl | rfl
      · exact allL_mem.1 meanCases_r_5_4_0 0 (by simp)
      · exact allL_mem.1 meanCases_r_5_4_0 1 (by simp)
      · exact allL_mem.1 meanCases_r_5_4_0 2 (by simp)
      · exact allL_mem.1 meanCases_r_5_4_3 3 (by simp)
  have k_5_5 : ∀ z ∈ [0, 1, 2, 3], meanCases_run 5 5 z = true := fun z hz => by
      simp only [List.mem_cons, List.not_mem_nil, or_false] at hz
      rcases hz with rfl | rfl | rfl | rfl
      · exact allL_mem.1 meanCases_r_5_5_0 0 (by simp)
      · exact allL_mem.1 meanCases_r_5_5_0 1 (by simp)
      · exact allL_mem.1 meanCases_r_5_5_0 2 (by simp)
      · exact allL_mem.1 meanCases_r_5_5_3 3 (by simp)
  have k_5_6 : ∀ z ∈ [0, 1, 2, 3], meanCases_run 5 6 z = true := fun z hz => by
      simp only [List.mem_cons, List.not_mem_nil, or_false] at hz
      rcases hz with rfl | rfl | rfl | rfl
      · exact allL_mem.1 meanCases_r_5_6_0 0 (by simp)
      · exact allL_mem.1 meanCases_r_5_6_0 1 (by simp)
      · exact allL_mem.1 meanCases_r_5_6_0 2 (by simp)
      · exact allL_mem.1 meanCases_r_5_6_3 3 (by simp)
  have k_5_7 : ∀ z ∈ [0, 1, 2, 3], meanCases_run 5 7 z = true := fun z hz => by
      simp only [List.mem_cons, List.not_mem_nil, or_false] at hz
      rcases hz with rfl | rfl | rfl | rfl
      · exact allL_mem.1 meanCases_r_5_7_0 0 (by simp)
      · exact allL_mem.1 meanCases_r_5_7_0 1 (by simp)
      · exact allL_mem.1 meanCases_r_5_7_0 2 (by simp)
      · exact allL_mem.1 meanCases_r_5_7_3 3 (by simp)
  simp only [List.mem_cons, List.not_mem_nil, or_false] at m0 m1
  rcases m0 with rfl | rfl | rfl | rfl | rfl | rfl
  · skip
    rcases m1 with rfl | rfl | rfl | rfl | rfl | rfl | rfl | rfl
    · skip
      exact k_0_0 r2 m2
    · skip
      exact k_0_1 r2 m2
    · skip
      exact k_0_2 r2 m2
    · skip
      exact k_0_3 r2 m2
    · skip
      exact k_0_4 r2 m2
    · skip
      exact k_0_5 r2 m2
    · skip
      exact k_0_6 r2 m2
    · skip
      exact k_0_7 r2 m2
  · skip
    rcases m1 with rfl | rfl | rfl | rfl | rfl | rfl | rfl | rfl
    · skip
      exact k_1_0 r2 m2
    · skip
      exact k_1_1 r2 m2
    · skip
      exact k_1_2 r2 m2
    · skip
      exact k_1_3 r2 m2
    · skip
      exact k_1_4 r2 m2
    · skip
      exact k_1_5 r2 m2
    · skip
      exact k_1_6 r2 m2
    · skip
      exact k_1_7 r2 m2
  · skip
    rcases m1 with rfl | rfl | rfl | rfl | rfl | rfl | rfl | rfl
    · skip
      exact k_2_0 r2 m2
    · skip
      exact k_2_1 r2 m2
    · skip
      exact k_2_2 r2 m2
    · skip
      exact k_2_3 r2 m2
    · skip
      exact k_2_4 r2 m2
    · skip
      exact k_2_5 r2 m2
    · skip
      exact k_2_6 r2 m2
    · skip
      exact k_2_7 r2 m2
  · skip
    rcases m1 with rfl | rfl | rfl | rfl | rfl | rfl | rfl | rfl
    · skip
      exact k_3_0 r2 m2
    · skip
      exact k_3_1 r2 m2
    · skip
      exact k_3_2 r2 m2
    · skip
      exact k_3_3 r2 m2
    · skip
      exact k_3_4 r2 m2
    · skip
      exact k_3_5 r2 m2
    · skip
      exact k_3_6 r2 m2
    · skip
      exact k_3_7 r2 m2
  · skip
    rcases m1 with rfl | rfl | rfl | rfl | rfl | rfl | rfl | rfl
    · skip
      exact k_4_0 r2 m2
    · skip
      exact k_4_1 r2 m2
    · skip
      exact k_4_2 r2 m2
    · skip
      exact k_4_3 r2 m2
    · skip
      exact k_4_4 r2 m2
    · skip
      exact k_4_5 r2 m2
    · skip
      exact k_4_6 r2 m2
    · skip
      exact k_4_7 r2 m2
  · skip
    rcases m1 with rfl | rfl | rfl | rfl | rfl | rfl | rfl | rfl
    · skip
      exact k_5_0 r2 m2
    · skip
      exact k_5_1 r2 m2
    · skip
      exact k_5_2 r2 m2
    · skip
      exact k_5_3 r2 m2
    · skip
      exact k_5_4 r2 m2
    · skip
      exact k_5_5 r2 m2
    · skip
      exact k_5_6 r2 m2
    · skip
      exact k_5_7 r2 m2
theorem meanCases_any (x0 : Int) (x1 : Int) (x2 : Int) (q0 : (Lit.int .i64 x0).wf = true) (q1 : (Lit.int .i64 x1).wf = true) (q2 : (Lit.int .i64 x2).wf = true) (W : World) (ht : ∀ sy : Nat → Value, ∃ size ea ez, Starts sy (gsFrom 244 meanCases_tabs 1024 meanCases_errs) (esFrom 1024 meanCases_errs) W size ea ez) :
    Calls Tryz.prog 7 #[.int .i64 x0, .int .i64 x1, .int .i64 x2] W fun e w' => e = .returned (.bool true) ∧ Go.RowKit.Below W.heap.size W w' := by
  obtain ⟨size, ea, ez, hs⟩ := ht (fun j => .int .i64 ((fun j => if j = 0 then x0 else if j = 1 then x1 else if j = 2 then x2 else 0 : Nat → Int) j))
  have b0 := Int.emod_nonneg x0 (show (6 : Int) ≠ 0 by decide)
  have c0 := Int.emod_lt_of_pos x0 (show (0 : Int) < 6 by decide)
  have b1 := Int.emod_nonneg x1 (show (8 : Int) ≠ 0 by decide)
  have c1 := Int.emod_lt_of_pos x1 (show (0 : Int) < 8 by decide)
  have b2 := Int.emod_nonneg x2 (show (4 : Int) ≠ 0 by decide)
  have c2 := Int.emod_lt_of_pos x2 (show (0 : Int) < 4 by decide)
  have hrun := meanCases_all (x0 % 6).toNat (x1 % 8).toNat (x2 % 4).toNat (by omega) (by omega) (by omega)
  unfold meanCases_run at hrun
  obtain ⟨s', hrun⟩ := isT_some hrun
  have hbase : OvOk (fun j => .int .i64 ((fun j => if j = 0 then x0 else if j = 1 then x1 else if j = 2 then x2 else 0 : Nat → Int) j)) Tryz.prog (meanCases_base (x0 % 6).toNat (x1 % 8).toNat (x2 % 4).toNat) := by
    refine (hStr_ok (hCopy_ok (hFmt_ok (hNum_ok (xs := fun j => if j = 0 then x0 else if j = 1 then x1 else if j = 2 then x2 else 0) (fun x m h1 h2 w => number_any x m h1 h2 w) ⟨_, Tryz.func9, by kernel_rfl, by kernel_rfl⟩ (fun j _ _ _ => rfl) (rests_ok ?_)) (fun n w h0 h1 ht => fmt_any n w h0 h1 ht) ⟨_, Tryz.func61, by kernel_rfl, by kernel_rfl⟩) bld_ok) bld_ok)
    intro y hy
    simp only [List.mem_cons, List.not_mem_nil, or_false] at hy
    rcases hy with rfl | rfl | rfl
    · simp; omega
    · simp; omega
    · simp; omega
  refine closedF hs hbase hrun ?_
  · exact ⟨_, _, rfl, ⟨rfl, _, rfl, meanCases_wrap q0, fun hge => absurd hge (by decide), fun hge => absurd hge (by decide)⟩, ⟨_, _, rfl, ⟨rfl, _, rfl, meanCases_wrap q1, fun hge => absurd hge (by decide), fun hge => absurd hge (by decide)⟩, ⟨_, _, rfl, ⟨rfl, _, rfl, meanCases_wrap q2, fun hge => absurd hge (by decide), fun hge => absurd hge (by decide)⟩, rfl⟩⟩⟩
end Go.Proofs.YtogemcnajcaeoaaGreatDoor
