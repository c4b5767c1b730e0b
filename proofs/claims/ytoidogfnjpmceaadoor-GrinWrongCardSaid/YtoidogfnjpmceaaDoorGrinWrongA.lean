/- GrinWrong: called with any arguments, the law answers true, and what lay in memory stands. Conditions: the listed variables read as start-up lays them. -/
import Derived.Test.YtoidogfnjpmceaaDoorGrinWrongR0
import Derived.Test.YtoidogfnjpmceaaDoorGrinWrongR1
import Derived.Test.YtoidogfnjpmceaaDoorGrinWrongR2
import Derived.Test.YtoidogfnjpmceaaDoorGrinWrongR3
import Derived.Test.YtoidogfnjpmceaaDoorGrinWrongR4
import Derived.Test.YtoidogfnjpmceaaDoorGrinWrongR5
import Derived.Test.YtoidogfnjpmceaaDoorNumber
namespace Go.Proofs.YtoidogfnjpmceaaDoor
open Go.Ex
theorem grinWrong_wrap {n : Int} (h : (Lit.int .i64 n).wf = true) : IntKind.i64.wrap n = n := by
  simp only [Lit.wf, Bool.and_eq_true, decide_eq_true_eq] at h
  obtain ⟨h1, h2⟩ := h
  have e1 : IntKind.i64.min = -9223372036854775808 := by decide
  have e2 : IntKind.i64.max = 9223372036854775807 := by decide
  rw [e1] at h1
  rw [e2] at h2
  have e3 : IntKind.i64.wrap n = if n % 18446744073709551616 ≥ 9223372036854775808 then n % 18446744073709551616 - 18446744073709551616 else n % 18446744073709551616 := by
    unfold IntKind.wrap
    simp [IntKind.bits, IntKind.signed]
  rw [e3]
  split <;> omega
theorem grinWrong_all : ∀ (r0 : Nat) (r1 : Nat), r0 < 11 → r1 < 5 → grinWrong_run r0 r1 = true := by
  intro r0 r1 h0 h1
  have m0 : r0 ∈ [0, 1, 2, 3, 4, 5, 6, 7, 8, 9, 10] := by simp; omega
  have m1 : r1 ∈ [0, 1, 2, 3, 4] := by simp; omega
  have k_0 : ∀ z ∈ [0, 1, 2, 3, 4], grinWrong_run 0 z = true := fun z hz => by
      simp only [List.mem_cons, List.not_mem_nil, or_false] at hz
      rcases hz with rfl | rfl | rfl | rfl | rfl
      · exact allL_mem.1 grinWrong_r_0_0 0 (by simp)
      · exact allL_mem.1 grinWrong_r_0_0 1 (by simp)
      · exact allL_mem.1 grinWrong_r_0_0 2 (by simp)
      · exact allL_mem.1 grinWrong_r_0_0 3 (by simp)
      · exact allL_mem.1 grinWrong_r_0_0 4 (by simp)
  have k_1 : ∀ z ∈ [0, 1, 2, 3, 4], grinWrong_run 1 z = true := fun z hz => by
      simp only [List.mem_cons, List.not_mem_nil, or_false] at hz
      rcases hz with rfl | rfl | rfl | rfl | rfl
      · exact allL_mem.1 grinWrong_r_1_0 0 (by simp)
      · exact allL_mem.1 grinWrong_r_1_0 1 (by simp)
      · exact allL_mem.1 grinWrong_r_1_0 2 (by simp)
      · exact allL_mem.1 grinWrong_r_1_0 3 (by simp)
      · exact allL_mem.1 grinWrong_r_1_0 4 (by simp)
  have k_2 : ∀ z ∈ [0, 1, 2, 3, 4], grinWrong_run 2 z = true := fun z hz => by
      simp only [List.mem_cons, List.not_mem_nil, or_false] at hz
      rcases hz with rfl | rfl | rfl | rfl | rfl
      · exact allL_mem.1 grinWrong_r_2_0 0 (by simp)
      · exact allL_mem.1 grinWrong_r_2_0 1 (by simp)
      · exact allL_mem.1 grinWrong_r_2_0 2 (by simp)
      · exact allL_mem.1 grinWrong_r_2_0 3 (by simp)
      · exact allL_mem.1 grinWrong_r_2_0 4 (by simp)
  have k_3 : ∀ z ∈ [0, 1, 2, 3, 4], grinWrong_run 3 z = true := fun z hz => by
      simp only [List.mem_cons, List.not_mem_nil, or_false] at hz
      rcases hz with rfl | rfl | rfl | rfl | rfl
      · exact allL_mem.1 grinWrong_r_3_0 0 (by simp)
      · exact allL_mem.1 grinWrong_r_3_0 1 (by simp)
      · exact allL_mem.1 grinWrong_r_3_0 2 (by simp)
      · exact allL_mem.1 grinWrong_r_3_0 3 (by simp)
      · exact allL_mem.1 grinWrong_r_3_0 4 (by simp)
  have k_4 : ∀ z ∈ [0, 1, 2, 3, 4], grinWrong_run 4 z = true := fun z hz => by
      simp only [List.mem_cons, List.not_mem_nil, or_false] at hz
      rcases hz with rfl | rfl | rfl | rfl | rfl
      · exact allL_mem.1 grinWrong_r_4_0 0 (by simp)
      · exact allL_mem.1 grinWrong_r_4_0 1 (by simp)
      · exact allL_mem.1 grinWrong_r_4_0 2 (by simp)
      · exact allL_mem.1 grinWrong_r_4_0 3 (by simp)
      · exact allL_mem.1 grinWrong_r_4_0 4 (by simp)
  have k_5 : ∀ z ∈ [0, 1, 2, 3, 4], grinWrong_run 5 z = true := fun z hz => by
      simp only [List.mem_cons, List.not_mem_nil, or_false] at hz
      rcases hz with rfl | rfl | rfl | rfl | rfl
      · exact allL_mem.1 grinWrong_r_5_0 0 (by simp)
      · exact allL_mem.1 grinWrong_r_5_0 1 (by simp)
      · exact allL_mem.1 grinWrong_r_5_0 2 (by simp)
      · exact allL_mem.1 grinWrong_r_5_0 3 (by simp)
      · exact allL_mem.1 grinWrong_r_5_0 4 (by simp)
  have k_6 : ∀ z ∈ [0, 1, 2, 3, 4], grinWrong_run 6 z = true := fun z hz => by
      simp only [List.mem_cons, List.not_mem_nil, or_false] at hz
      rcases hz with rfl | rfl | rfl | rfl | rfl
      · exact allL_mem.1 grinWrong_r_6_0 0 (by simp)
      · exact allL_mem.1 grinWrong_r_6_0 1 (by simp)
      · exact allL_mem.1 grinWrong_r_6_0 2 (by simp)
      · exact allL_mem.1 grinWrong_r_6_0 3 (by simp)
      · exact allL_mem.1 grinWrong_r_6_0 4 (by simp)
  have k_7 : ∀ z ∈ [0, 1, 2, 3, 4], grinWrong_run 7 z = true := fun z hz => by
      simp only [List.mem_cons, List.not_mem_nil, or_false] at hz
      rcases hz with rfl | rfl | rfl | rfl | rfl
      · exact allL_mem.1 grinWrong_r_7_0 0 (by simp)
      · exact allL_mem.1 grinWrong_r_7_0 1 (by simp)
      · exact allL_mem.1 grinWrong_r_7_0 2 (by simp)
      · exact allL_mem.1 grinWrong_r_7_0 3 (by simp)
      · exact allL_mem.1 grinWrong_r_7_0 4 (by simp)
  have k_8 : ∀ z ∈ [0, 1, 2, 3, 4], grinWrong_run 8 z = true := fun z hz => by
      simp only [List.mem_cons, List.not_mem_nil, or_false] at hz
      rcases hz with rfl | rfl | rfl | rfl | rfl
      · exact allL_mem.1 grinWrong_r_8_0 0 (by simp)
      · exact allL_mem.1 grinWrong_r_8_0 1 (by simp)
      · exact allL_mem.1 grinWrong_r_8_0 2 (by simp)
      · exact allL_mem.1 grinWrong_r_8_0 3 (by simp)
      · exact allL_mem.1 grinWrong_r_8_0 4 (by simp)
  have k_9 : ∀ z ∈ [0, 1, 2, 3, 4], grinWrong_run 9 z = true := fun z hz => by
      simp only [List.mem_cons, List.not_mem_nil, or_false] at hz
      rcases hz with rfl | rfl | rfl | rfl | rfl
      · exact allL_mem.1 grinWrong_r_9_0 0 (by simp)
      · exact allL_mem.1 grinWrong_r_9_0 1 (by simp)
      · exact allL_mem.1 grinWrong_r_9_0 2 (by simp)
      · exact allL_mem.1 grinWrong_r_9_0 3 (by simp)
      · exact allL_mem.1 grinWrong_r_9_0 4 (by simp)
  have k_10 : ∀ z ∈ [0, 1, 2, 3, 4], grinWrong_run 10 z = true := fun z hz => by
      simp only [List.mem_cons, List.not_mem_nil, or_false] at hz
      rcases hz with rfl | rfl | rfl | rfl | rfl
      · exact allL_mem.1 grinWrong_r_10_0 0 (by simp)
      · exact allL_mem.1 grinWrong_r_10_0 1 (by simp)
      · exact allL_mem.1 grinWrong_r_10_0 2 (by simp)
      · exact allL_mem.1 grinWrong_r_10_0 3 (by simp)
      · exact allL_mem.1 grinWrong_r_10_0 4 (by simp)
  simp only [List.mem_cons, List.not_mem_nil, or_false] at m0
  rcases m0 with rfl | rfl | rfl | rfl | rfl | rfl | rfl | rfl | rfl | rfl | rfl
  · skip
    exact k_0 r1 m1
  · skip
    exact k_1 r1 m1
  · skip
    exact k_2 r1 m1
  · skip
    exact k_3 r1 m1
  · skip
    exact k_4 r1 m1
  · skip
    exact k_5 r1 m1
  · skip
    exact k_6 r1 m1
  · skip
    exact k_7 r1 m1
  · skip
    exact k_8 r1 m1
  · skip
    exact k_9 r1 m1
  · skip
    exact k_10 r1 m1
theorem grinWrong_any (x0 : Int) (x1 : Int) (q0 : (Lit.int .i64 x0).wf = true) (q1 : (Lit.int .i64 x1).wf = true) (W : World) (ht : ∀ sy : Nat → Value, ∃ size ea ez, Starts sy (gsFrom 172 grinWrong_tabs 1024 grinWrong_errs) (esFrom 1024 grinWrong_errs) W size ea ez) :
    Calls Tryd.prog 3 #[.int .i64 x0, .int .i64 x1] W fun e w' => e = .returned (.bool true) ∧ Go.RowKit.Below W.heap.size W w' := by
  obtain ⟨size, ea, ez, hs⟩ := ht (fun j => .int .i64 ((fun j => if j = 0 then x0 else if j = 1 then x1 else 0 : Nat → Int) j))
  have b0 := Int.emod_nonneg x0 (show (11 : Int) ≠ 0 by decide)
  have c0 := Int.emod_lt_of_pos x0 (show (0 : Int) < 11 by decide)
  have b1 := Int.emod_nonneg x1 (show (5 : Int) ≠ 0 by decide)
  have c1 := Int.emod_lt_of_pos x1 (show (0 : Int) < 5 by decide)
  have hrun := grinWrong_all (x0 % 11).toNat (x1 % 5).toNat (by omega) (by omega)
  unfold grinWrong_run at hrun
  obtain ⟨s', hrun⟩ := isT_some hrun
  have hbase : OvOk (fun j => .int .i64 ((fun j => if j = 0 then x0 else if j = 1 then x1 else 0 : Nat → Int) j)) Tryd.prog (grinWrong_base (x0 % 11).toNat (x1 % 5).toNat) := by
    refine (hNum_ok (xs := fun j => if j = 0 then x0 else if j = 1 then x1 else 0) (fun x m h1 h2 w => number_any x m h1 h2 w) ⟨_, Tryd.func8, by kernel_rfl, by kernel_rfl⟩ (fun j _ _ _ => rfl) (rests_ok ?_))
    intro y hy
    simp only [List.mem_cons, List.not_mem_nil, or_false] at hy
    rcases hy with rfl | rfl
    · simp; omega
    · simp; omega
  refine closedF hs hbase hrun ?_
  · exact ⟨_, _, rfl, ⟨rfl, _, rfl, grinWrong_wrap q0, fun hge => absurd hge (by decide), fun hge => absurd hge (by decide)⟩, ⟨_, _, rfl, ⟨rfl, _, rfl, grinWrong_wrap q1, fun hge => absurd hge (by decide), fun hge => absurd hge (by decide)⟩, rfl⟩⟩
end Go.Proofs.YtoidogfnjpmceaaDoor
