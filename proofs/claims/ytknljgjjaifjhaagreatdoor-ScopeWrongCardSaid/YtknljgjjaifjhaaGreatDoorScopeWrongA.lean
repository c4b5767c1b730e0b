/- ScopeWrong: called with any arguments, the law answers true, and what lay in memory stands. Conditions: the listed variables read as start-up lays them. -/
import Derived.Test.YtknljgjjaifjhaaGreatDoorScopeWrongR0
import Derived.Test.YtknljgjjaifjhaaGreatDoorScopeWrongR1
import Derived.Test.YtknljgjjaifjhaaGreatDoorScopeWrongR2
import Derived.Test.YtknljgjjaifjhaaGreatDoorNumber
import Derived.Test.YtknljgjjaifjhaaGreatDoorBld
namespace Go.Proofs.YtknljgjjaifjhaaGreatDoor
open Go.Ex
theorem scopeWrong_all : ∀ (r0 : Nat) (r1 : Nat), r0 < 7 → r1 < 5 → scopeWrong_run r0 r1 = true := by
  intro r0 r1 h0 h1
  have m0 : r0 ∈ [0, 1, 2, 3, 4, 5, 6] := by simp; omega
  have m1 : r1 ∈ [0, 1, 2, 3, 4] := by simp; omega
  have k_0 : ∀ z ∈ [0, 1, 2, 3, 4], scopeWrong_run 0 z = true := fun z hz => by
      simp only [List.mem_cons, List.not_mem_nil, or_false] at hz
      rcases hz with rfl | rfl | rfl | rfl | rfl
      · exact allL_mem.1 scopeWrong_r_0_0 0 (by simp)
      · exact allL_mem.1 scopeWrong_r_0_0 1 (by simp)
      · exact allL_mem.1 scopeWrong_r_0_0 2 (by simp)
      · exact allL_mem.1 scopeWrong_r_0_0 3 (by simp)
      · exact allL_mem.1 scopeWrong_r_0_0 4 (by simp)
  have k_1 : ∀ z ∈ [0, 1, 2, 3, 4], scopeWrong_run 1 z = true := fun z hz => by
      simp only [List.mem_cons, List.not_mem_nil, or_false] at hz
      rcases hz with rfl | rfl | rfl | rfl | rfl
      · exact allL_mem.1 scopeWrong_r_1_0 0 (by simp)
      · exact allL_mem.1 scopeWrong_r_1_0 1 (by simp)
      · exact allL_mem.1 scopeWrong_r_1_0 2 (by simp)
      · exact allL_mem.1 scopeWrong_r_1_0 3 (by simp)
      · exact allL_mem.1 scopeWrong_r_1_0 4 (by simp)
  have k_2 : ∀ z ∈ [0, 1, 2, 3, 4], scopeWrong_run 2 z = true := fun z hz => by
      simp only [List.mem_cons, List.not_mem_nil, or_false] at hz
      rcases hz with rfl | rfl | rfl | rfl | rfl
      · exact allL_mem.1 scopeWrong_r_2_0 0 (by simp)
      · exact allL_mem.1 scopeWrong_r_2_0 1 (by simp)
      · exact allL_mem.1 scopeWrong_r_2_0 2 (by simp)
      · exact allL_mem.1 scopeWrong_r_2_0 3 (by simp)
      · exact allL_mem.1 scopeWrong_r_2_0 4 (by simp)
  have k_3 : ∀ z ∈ [0, 1, 2, 3, 4], scopeWrong_run 3 z = true := fun z hz => by
      simp only [List.mem_cons, List.not_mem_nil, or_false] at hz
      rcases hz with rfl | rfl | rfl | rfl | rfl
      · exact allL_mem.1 scopeWrong_r_3_0 0 (by simp)
      · exact allL_mem.1 scopeWrong_r_3_0 1 (by simp)
      · exact allL_mem.1 scopeWrong_r_3_0 2 (by simp)
      · exact allL_mem.1 scopeWrong_r_3_0 3 (by simp)
      · exact allL_mem.1 scopeWrong_r_3_0 4 (by simp)
  have k_4 : ∀ z ∈ [0, 1, 2, 3, 4], scopeWrong_run 4 z = true := fun z hz => by
      simp only [List.mem_cons, List.not_mem_nil, or_false] at hz
      rcases hz with rfl | rfl | rfl | rfl | rfl
      · exact allL_mem.1 scopeWrong_r_4_0 0 (by simp)
      · exact allL_mem.1 scopeWrong_r_4_0 1 (by simp)
      · exact allL_mem.1 scopeWrong_r_4_0 2 (by simp)
      · exact allL_mem.1 scopeWrong_r_4_0 3 (by simp)
      · exact allL_mem.1 scopeWrong_r_4_0 4 (by simp)
  have k_5 : ∀ z ∈ [0, 1, 2, 3, 4], scopeWrong_run 5 z = true := fun z hz => by
      simp only [List.mem_cons, List.not_mem_nil, or_false] at hz
      rcases hz with rfl | rfl | rfl | rfl | rfl
      · exact allL_mem.1 scopeWrong_r_5_0 0 (by simp)
      · exact allL_mem.1 scopeWrong_r_5_0 1 (by simp)
      · exact allL_mem.1 scopeWrong_r_5_0 2 (by simp)
      · exact allL_mem.1 scopeWrong_r_5_0 3 (by simp)
      · exact allL_mem.1 scopeWrong_r_5_0 4 (by simp)
  have k_6 : ∀ z ∈ [0, 1, 2, 3, 4], scopeWrong_run 6 z = true := fun z hz => by
      simp only [List.mem_cons, List.not_mem_nil, or_false] at hz
      rcases hz with rfl | rfl | rfl | rfl | rfl
      · exact allL_mem.1 scopeWrong_r_6_0 0 (by simp)
      · exact allL_mem.1 scopeWrong_r_6_0 1 (by simp)
      · exact allL_mem.1 scopeWrong_r_6_0 2 (by simp)
      · exact allL_mem.1 scopeWrong_r_6_0 3 (by simp)
      · exact allL_mem.1 scopeWrong_r_6_0 4 (by simp)
  simp only [List.mem_cons, List.not_mem_nil, or_false] at m0
  rcases m0 with rfl | rfl | rfl | rfl | rfl | rfl | rfl
  · skip
    exact k_0 r1 m1
  · skip
    exact k_1 r1 m1
  · skip
    exact k_2 r1 m1
  · skip
    exact k_3 r1 m1
  · skip
    exact k_4 r1 m1
  · skip
    exact k_5 r1 m1
  · skip
    exact k_6 r1 m1
theorem scopeWrong_any (x0 : Int) (x1 : Int) {p0 : Prop} (_q0 : p0) {p1 : Prop} (_q1 : p1) (W : World) (ht : ∀ sy : Nat → Value, ∃ size ea ez, Starts sy (gsFrom 173 scopeWrong_tabs 1024 scopeWrong_errs) (esFrom 1024 scopeWrong_errs) W size ea ez) :
    Calls Tryz.prog 3 #[.int .i64 x0, .int .i64 x1] W fun e w' => e = .returned (.bool true) ∧ Go.RowKit.Below W.heap.size W w' := by
  obtain ⟨size, ea, ez, hs⟩ := ht (fun j => .int .i64 ((fun j => if j = 0 then x0 else if j = 1 then x1 else 0 : Nat → Int) j))
  have b0 := Int.emod_nonneg x0 (show (7 : Int) ≠ 0 by decide)
  have c0 := Int.emod_lt_of_pos x0 (show (0 : Int) < 7 by decide)
  have b1 := Int.emod_nonneg x1 (show (5 : Int) ≠ 0 by decide)
  have c1 := Int.emod_lt_of_pos x1 (show (0 : Int) < 5 by decide)
  have hrun := scopeWrong_all (x0 % 7).toNat (x1 % 5).toNat (by omega) (by omega)
  unfold scopeWrong_run at hrun
  obtain ⟨s', hrun⟩ := isT_some hrun
  have hbase : OvOk (fun j => .int .i64 ((fun j => if j = 0 then x0 else if j = 1 then x1 else 0 : Nat → Int) j)) Tryz.prog (scopeWrong_base (x0 % 7).toNat (x1 % 5).toNat) := by
    refine (hStr_ok (hCopy_ok (hNum_ok (xs := fun j => if j = 0 then x0 else if j = 1 then x1 else 0) (fun x m h1 h2 w => number_any x m h1 h2 w) ⟨_, Tryz.func6, by kernel_rfl, by kernel_rfl⟩ (fun j _ _ _ => rfl) (rests_ok ?_)) bld_ok) bld_ok)
    intro y hy
    simp only [List.mem_cons, List.not_mem_nil, or_false] at hy
    rcases hy with rfl | rfl
    · simp; omega
    · simp; omega
  refine closedF hs hbase hrun ?_
  · exact ⟨_, _, rfl, ⟨rfl, trivial⟩, ⟨_, _, rfl, ⟨rfl, trivial⟩, rfl⟩⟩
end Go.Proofs.YtknljgjjaifjhaaGreatDoor
