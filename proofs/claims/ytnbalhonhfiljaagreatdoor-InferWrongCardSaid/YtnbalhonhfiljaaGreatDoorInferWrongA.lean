/- InferWrong: called with any arguments, the law answers true, and what lay in memory stands. Conditions: the listed variables read as start-up lays them. -/
import Derived.Test.YtnbalhonhfiljaaGreatDoorInferWrongR0
import Derived.Test.YtnbalhonhfiljaaGreatDoorInferWrongR1
import Derived.Test.YtnbalhonhfiljaaGreatDoorInferWrongR2
import Derived.Test.YtnbalhonhfiljaaGreatDoorInferWrongR3
import Derived.Test.YtnbalhonhfiljaaGreatDoorInferWrongR4
import Derived.Test.YtnbalhonhfiljaaGreatDoorInferWrongR5
import Derived.Test.YtnbalhonhfiljaaGreatDoorInferWrongR6
import Derived.Test.YtnbalhonhfiljaaGreatDoorInferWrongR7
import Derived.Test.YtnbalhonhfiljaaGreatDoorNumber
import Derived.Test.YtnbalhonhfiljaaGreatDoorBld
namespace Go.Proofs.YtnbalhonhfiljaaGreatDoor
open Go.Ex
theorem inferWrong_wrap {n : Int} (h : (Lit.int .i64 n).wf = true) : IntKind.i64.wrap n = n := by
  simp only [Lit.wf, Bool.and_eq_true, decide_eq_true_eq] at h
  obtain ⟨h1, h2⟩ := h
  have e1 : IntKind.i64.min = -9223372036854775808 := by decide
  have e2 : IntKind.i64.max = 9223372036854775807 := by decide
  rw [e1] at h1
  rw [e2] at h2
  have e3 : IntKind.i64.wrap n = if n % 18446744073709551616 ≥ 9223372036854775808 then n % 18446744073709551616 - 18446744073709551616 else n % 18446744073709551616 := by
    unfold IntKind.wrap
    simp [IntKind.bits, IntKind.signed]
  rw [e3]
  split <;> omega
theorem inferWrong_all : ∀ (r0 : Nat) (r1 : Nat) (r2 : Nat), r0 < 4 → r1 < 4 → r2 < 6 → inferWrong_run r0 r1 r2 = true := by
  intro r0 r1 r2 h0 h1 h2
  have m0 : r0 ∈ [0, 1, 2, 3] := by simp; omega
  have m1 : r1 ∈ [0, 1, 2, 3] := by simp; omega
  have m2 : r2 ∈ [0, 1, 2, 3, 4, 5] := by simp; omega
  have k_0_0 : ∀ z ∈ [0, 1, 2, 3, 4, 5], inferWrong_run 0 0 z = true := fun z hz => by
      simp only [List.mem_cons, List.not_mem_nil, or_false] at hz
      rcases hz with rfl | rfl | rfl | rfl | rfl | rfl
      · exact allL_mem.1 inferWrong_r_0_0_0 0 (by simp)
      · exact allL_mem.1 inferWrong_r_0_0_0 1 (by simp)
      · exact allL_mem.1 inferWrong_r_0_0_0 2 (by simp)
      · exact allL_mem.1 inferWrong_r_0_0_3 3 (by simp)
      · exact allL_mem.1 inferWrong_r_0_0_3 4 (by simp)
      · exact allL_mem.1 inferWrong_r_0_0_3 5 (by simp)
  have k_0_1 : ∀ z ∈ [0, 1, 2, 3, 4, 5], inferWrong_run 0 1 z = true := fun z hz => by
      simp only [List.mem_cons, List.not_mem_nil, or_false] at hz
      rcases hz with rfl | rfl | rfl | rfl | rfl | rfl
      · exact allL_mem.1 inferWrong_r_0_1_0 0 (by simp)
      · exact allL_mem.1 inferWrong_r_0_1_0 1 (by simp)
      · exact allL_mem.1 inferWrong_r_0_1_0 2 (by simp)
      · exact allL_mem.1 inferWrong_r_0_1_3 3 (by simp)
      · exact allL_mem.1 inferWrong_r_0_1_3 4 (by simp)
      · exact allL_mem.1 inferWrong_r_0_1_3 5 (by simp)
  have k_0_2 : ∀ z ∈ [0, 1, 2, 3, 4, 5], inferWrong_run 0 2 z = true := fun z hz => by
      simp only [List.mem_cons, List.not_mem_nil, or_false] at hz
      rcases hz with rfl | rfl | rfl | rfl | rfl | rfl
      · exact allL_mem.1 inferWrong_r_0_2_0 0 (by simp)
      · exact allL_mem.1 inferWrong_r_0_2_0 1 (by simp)
      · exact allL_mem.1 inferWrong_r_0_2_0 2 (by simp)
      · exact allL_mem.1 inferWrong_r_0_2_3 3 (by simp)
      · exact allL_mem.1 inferWrong_r_0_2_3 4 (by simp)
      · exact allL_mem.1 inferWrong_r_0_2_3 5 (by simp)
  have k_0_3 : ∀ z ∈ [0, 1, 2, 3, 4, 5], inferWrong_run 0 3 z = true := fun z hz => by
      simp only [List.mem_cons, List.not_mem_nil, or_false] at hz
      rcases hz with rfl | rfl | rfl | rfl | rfl | rfl
      · exact allL_mem.1 inferWrong_r_0_3_0 0 (by simp)
      · exact allL_mem.1 inferWrong_r_0_3_0 1 (by simp)
      · exact allL_mem.1 inferWrong_r_0_3_0 2 (by simp)
      · exact allL_mem.1 inferWrong_r_0_3_3 3 (by simp)
      · exact allL_mem.1 inferWrong_r_0_3_3 4 (by simp)
      · exact allL_mem.1 inferWrong_r_0_3_3 5 (by simp)
  have k_1_0 : ∀ z ∈ [0, 1, 2, 3, 4, 5], inferWrong_run 1 0 z = true := fun z hz => by
      simp only [List.mem_cons, List.not_mem_nil, or_false] at hz
      rcases hz with rfl | rfl | rfl | rfl | rfl | rfl
      · exact allL_mem.1 inferWrong_r_1_0_0 0 (by simp)
      · exact allL_mem.1 inferWrong_r_1_0_0 1 (by simp)
      · exact allL_mem.1 inferWrong_r_1_0_0 2 (by simp)
      · exact allL_mem.1 inferWrong_r_1_0_3 3 (by simp)
      · exact allL_mem.1 inferWrong_r_1_0_3 4 (by simp)
      · exact allL_mem.1 inferWrong_r_1_0_3 5 (by simp)
  have k_1_1 : ∀ z ∈ [0, 1, 2, 3, 4, 5], inferWrong_run 1 1 z = true := fun z hz => by
      simp only [List.mem_cons, List.not_mem_nil, or_false] at hz
      rcases hz with rfl | rfl | rfl | rfl | rfl | rfl
      · exact allL_mem.1 inferWrong_r_1_1_0 0 (by simp)
      · exact allL_mem.1 inferWrong_r_1_1_0 1 (by simp)
      · exact allL_mem.1 inferWrong_r_1_1_0 2 (by simp)
      · exact allL_mem.1 inferWrong_r_1_1_3 3 (by simp)
      · exact allL_mem.1 inferWrong_r_1_1_3 4 (by simp)
      · exact allL_mem.1 inferWrong_r_1_1_3 5 (by simp)
  have k_1_2 : ∀ z ∈ [0, 1, 2, 3, 4, 5], inferWrong_run 1 2 z = true := fun z hz => by
      simp only [List.mem_cons, List.not_mem_nil, or_false] at hz
      rcases hz with rfl | rfl | rfl | rfl | rfl | rfl
      · exact allL_mem.1 inferWrong_r_1_2_0 0 (by simp)
      · exact allL_mem.1 inferWrong_r_1_2_0 1 (by simp)
      · exact allL_mem.1 inferWrong_r_1_2_0 2 (by simp)
      · exact allL_mem.1 inferWrong_r_1_2_3 3 (by simp)
      · exact allL_mem.1 inferWrong_r_1_2_3 4 (by simp)
      · exact allL_mem.1 inferWrong_r_1_2_3 5 (by simp)
  have k_1_3 : ∀ z ∈ [0, 1, 2, 3, 4, 5], inferWrong_run 1 3 z = true := fun z hz => by
      simp only [List.mem_cons, List.not_mem_nil, or_false] at hz
      rcases hz with rfl | rfl | rfl | rfl | rfl | rfl
      · exact allL_mem.1 inferWrong_r_1_3_0 0 (by simp)
      · exact allL_mem.1 inferWrong_r_1_3_0 1 (by simp)
      · exact allL_mem.1 inferWrong_r_1_3_0 2 (by simp)
      · exact allL_mem.1 inferWrong_r_1_3_3 3 (by simp)
      · exact allL_mem.1 inferWrong_r_1_3_3 4 (by simp)
      · exact allL_mem.1 inferWrong_r_1_3_3 5 (by simp)
  have k_2_0 : ∀ z ∈ [0, 1, 2, 3, 4, 5], inferWrong_run 2 0 z = true := fun z hz => by
      simp only [List.mem_cons, List.not_mem_nil, or_false] at hz
      rcases hz with rfl | rfl | rfl | rfl | rfl | rfl
      · exact allL_mem.1 inferWrong_r_2_0_0 0 (by simp)
      · exact allL_mem.1 inferWrong_r_2_0_0 1 (by simp)
      · exact allL_mem.1 inferWrong_r_2_0_0 2 (by simp)
      · exact allL_mem.1 inferWrong_r_2_0_3 3 (by simp)
      · exact allL_mem.1 inferWrong_r_2_0_3 4 (by simp)
      · exact allL_mem.1 inferWrong_r_2_0_3 5 (by simp)
  have k_2_1 : ∀ z ∈ [0, 1, 2, 3, 4, 5], inferWrong_run 2 1 z = true := fun z hz => by
      simp only [List.mem_cons, List.not_mem_nil, or_false] at hz
      rcases hz with rfl | rfl | rfl | rfl | rfl | rfl
      · exact allL_mem.1 inferWrong_r_2_1_0 0 (by simp)
      · exact allL_mem.1 inferWrong_r_2_1_0 1 (by simp)
      · exact allL_mem.1 inferWrong_r_2_1_0 2 (by simp)
      · exact allL_mem.1 inferWrong_r_2_1_3 3 (by simp)
      · exact allL_mem.1 inferWrong_r_2_1_3 4 (by simp)
      · exact allL_mem.1 inferWrong_r_2_1_3 5 (by simp)
  have k_2_2 : ∀ z ∈ [0, 1, 2, 3, 4, 5], inferWrong_run 2 2 z = true := fun z hz => by
      simp only [List.mem_cons, List.not_mem_nil, or_false] at hz
      rcases hz with rfl | rfl | rfl | rfl | rfl | rfl
      · exact allL_mem.1 inferWrong_r_2_2_0 0 (by simp)
      · exact allL_mem.1 inferWrong_r_2_2_0 1 (by simp)
      · exact allL_mem.1 inferWrong_r_2_2_0 2 (by simp)
      · exact allL_mem.1 inferWrong_r_2_2_3 3 (by simp)
      · exact allL_mem.1 inferWrong_r_2_2_3 4 (by simp)
      · exact allL_mem.1 inferWrong_r_2_2_3 5 (by simp)
  have k_2_3 : ∀ z ∈ [0, 1, 2, 3, 4, 5], inferWrong_run 2 3 z = true := fun z hz => by
      simp only [List.mem_cons, List.not_mem_nil, or_false] at hz
      rcases hz with rfl | rfl | rfl | rfl | rfl | rfl
      · exact allL_mem.1 inferWrong_r_2_3_0 0 (by simp)
      · exact allL_mem.1 inferWrong_r_2_3_0 1 (by simp)
      · exact allL_mem.1 inferWrong_r_2_3_0 2 (by simp)
      · exact allL_mem.1 inferWrong_r_2_3_3 3 (by simp)
      · exact allL_mem.1 inferWrong_r_2_3_3 4 (by simp)
      · exact allL_mem.1 inferWrong_r_2_3_3 5 (by simp)
  have k_3_0 : ∀ z ∈ [0, 1, 2, 3, 4, 5], inferWrong_run 3 0 z = true := fun z hz => by
      simp only [List.mem_cons, List.not_mem_nil, or_false] at hz
      rcases hz with rfl | rfl | rfl | rfl | rfl | rfl
      · exact allL_mem.1 inferWrong_r_3_0_0 0 (by simp)
      · exact allL_mem.1 inferWrong_r_3_0_0 1 (by simp)
      · exact allL_mem.1 inferWrong_r_3_0_0 2 (by simp)
      · exact allL_mem.1 inferWrong_r_3_0_3 3 (by simp)
      · exact allL_mem.1 inferWrong_r_3_0_3 4 (by simp)
      · exact allL_mem.1 inferWrong_r_3_0_3 5 (by simp)
  have k_3_1 : ∀ z ∈ [0, 1, 2, 3, 4, 5], inferWrong_run 3 1 z = true := fun z hz => by
      simp only [List.mem_cons, List.not_mem_nil, or_false] at hz
      rcases hz with rfl | rfl | rfl | rfl | rfl | rfl
      · exact allL_mem.1 inferWrong_r_3_1_0 0 (by simp)
      · exact allL_mem.1 inferWrong_r_3_1_0 1 (by simp)
      · exact allL_mem.1 inferWrong_r_3_1_0 2 (by simp)
      · exact allL_mem.1 inferWrong_r_3_1_3 3 (by simp)
      · exact allL_mem.1 inferWrong_r_3_1_3 4 (by simp)
      · exact allL_mem.1 inferWrong_r_3_1_3 5 (by simp)
  have k_3_2 : ∀ z ∈ [0, 1, 2, 3, 4, 5], inferWrong_run 3 2 z = true := fun z hz => by
      simp only [List.mem_cons, List.not_mem_nil, or_false] at hz
      rcases hz with rfl | rfl | rfl | rfl | rfl | rfl
      · exact allL_mem.1 inferWrong_r_3_2_0 0 (by simp)
      · exact allL_mem.1 inferWrong_r_3_2_0 1 (by simp)
      · exact allL_mem.1 inferWrong_r_3_2_0 2 (by simp)
      · exact allL_mem.1 inferWrong_r_3_2_3 3 (by simp)
      · exact allL_mem.1 inferWrong_r_3_2_3 4 (by simp)
      · exact allL_mem.1 inferWrong_r_3_2_3 5 (by simp)
  have k_3_3 : ∀ z ∈ [0, 1, 2, 3, 4, 5], inferWrong_run 3 3 z = true := fun z hz => by
      simp only [List.mem_cons, List.not_mem_nil, or_false] at hz
      rcases hz with rfl | rfl | rfl | rfl | rfl | rfl
      · exact allL_mem.1 inferWrong_r_3_3_0 0 (by simp)
      · exact allL_mem.1 inferWrong_r_3_3_0 1 (by simp)
      · exact allL_mem.1 inferWrong_r_3_3_0 2 (by simp)
      · exact allL_mem.1 inferWrong_r_3_3_3 3 (by simp)
      · exact allL_mem.1 inferWrong_r_3_3_3 4 (by simp)
      · exact allL_mem.1 inferWrong_r_3_3_3 5 (by simp)
  simp only [List.mem_cons, List.not_mem_nil, or_false] at m0 m1
  rcases m0 with rfl | rfl | rfl | rfl
  · skip
    rcases m1 with rfl | rfl | rfl | rfl
    · skip
      exact k_0_0 r2 m2
    · skip
      exact k_0_1 r2 m2
    · skip
      exact k_0_2 r2 m2
    · skip
      exact k_0_3 r2 m2
  · skip
    rcases m1 with rfl | rfl | rfl | rfl
    · skip
      exact k_1_0 r2 m2
    · skip
      exact k_1_1 r2 m2
    · skip
      exact k_1_2 r2 m2
    · skip
      exact k_1_3 r2 m2
  · skip
    rcases m1 with rfl | rfl | rfl | rfl
    · skip
      exact k_2_0 r2 m2
    · skip
      exact k_2_1 r2 m2
    · skip
      exact k_2_2 r2 m2
    · skip
      exact k_2_3 r2 m2
  · skip
    rcases m1 with rfl | rfl | rfl | rfl
    · skip
      exact k_3_0 r2 m2
    · skip
      exact k_3_1 r2 m2
    · skip
      exact k_3_2 r2 m2
    · skip
      exact k_3_3 r2 m2
theorem inferWrong_any (x0 : Int) (x1 : Int) (x2 : Int) (q0 : (Lit.int .i64 x0).wf = true) (q1 : (Lit.int .i64 x1).wf = true) (q2 : (Lit.int .i64 x2).wf = true) (W : World) (ht : ∀ sy : Nat → Value, ∃ size ea ez, Starts sy (gsFrom 266 inferWrong_tabs 1024 inferWrong_errs) (esFrom 1024 inferWrong_errs) W size ea ez) :
    Calls Tryz.prog 5 #[.int .i64 x0, .int .i64 x1, .int .i64 x2] W fun e w' => e = .returned (.bool true) ∧ Go.RowKit.Below W.heap.size W w' := by
  obtain ⟨size, ea, ez, hs⟩ := ht (fun j => .int .i64 ((fun j => if j = 0 then x0 else if j = 1 then x1 else if j = 2 then x2 else 0 : Nat → Int) j))
  have b0 := Int.emod_nonneg x0 (show (4 : Int) ≠ 0 by decide)
  have c0 := Int.emod_lt_of_pos x0 (show (0 : Int) < 4 by decide)
  have b1 := Int.emod_nonneg x1 (show (4 : Int) ≠ 0 by decide)
  have c1 := Int.emod_lt_of_pos x1 (show (0 : Int) < 4 by decide)
  have b2 := Int.emod_nonneg x2 (show (6 : Int) ≠ 0 by decide)
  have c2 := Int.emod_lt_of_pos x2 (show (0 : Int) < 6 by decide)
  have hrun := inferWrong_all (x0 % 4).toNat (x1 % 4).toNat (x2 % 6).toNat (by omega) (by omega) (by omega)
  unfold inferWrong_run at hrun
  obtain ⟨s', hrun⟩ := isT_some hrun
  have hbase : OvOk (fun j => .int .i64 ((fun j => if j = 0 then x0 else if j = 1 then x1 else if j = 2 then x2 else 0 : Nat → Int) j)) Tryz.prog (inferWrong_base (x0 % 4).toNat (x1 % 4).toNat (x2 % 6).toNat) := by
    refine (hStr_ok (hCopy_ok (hNum_ok (xs := fun j => if j = 0 then x0 else if j = 1 then x1 else if j = 2 then x2 else 0) (fun x m h1 h2 w => number_any x m h1 h2 w) ⟨_, Tryz.func7, by kernel_rfl, by kernel_rfl⟩ (fun j _ _ _ => rfl) (rests_ok ?_)) bld_ok) bld_ok)
    intro y hy
    simp only [List.mem_cons, List.not_mem_nil, or_false] at hy
    rcases hy with rfl | rfl | rfl
    · simp; omega
    · simp; omega
    · simp; omega
  refine closedF hs hbase hrun ?_
  · exact ⟨_, _, rfl, ⟨rfl, _, rfl, inferWrong_wrap q0⟩, ⟨_, _, rfl, ⟨rfl, _, rfl, inferWrong_wrap q1⟩, ⟨_, _, rfl, ⟨rfl, _, rfl, inferWrong_wrap q2⟩, rfl⟩⟩⟩
end Go.Proofs.YtnbalhonhfiljaaGreatDoor
