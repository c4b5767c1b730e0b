/- ScopeShadows: called with any arguments, the law answers true, and what lay in memory stands. Conditions: the listed variables read as start-up lays them. -/
import Derived.Test.YtknljgjjaifjhaaGreatDoorScopeShadowsR0
import Derived.Test.YtknljgjjaifjhaaGreatDoorScopeShadowsR1
import Derived.Test.YtknljgjjaifjhaaGreatDoorScopeShadowsR2
import Derived.Test.YtknljgjjaifjhaaGreatDoorScopeShadowsR3
import Derived.Test.YtknljgjjaifjhaaGreatDoorScopeShadowsR4
import Derived.Test.YtknljgjjaifjhaaGreatDoorScopeShadowsR5
import Derived.Test.YtknljgjjaifjhaaGreatDoorScopeShadowsR6
import Derived.Test.YtknljgjjaifjhaaGreatDoorScopeShadowsR7
import Derived.Test.YtknljgjjaifjhaaGreatDoorNumber
import Derived.Test.YtknljgjjaifjhaaGreatDoorBld
namespace Go.Proofs.YtknljgjjaifjhaaGreatDoor
open Go.Ex
theorem scopeShadows_all : ∀ (r0 : Nat) (r1 : Nat), r0 < 20 → r1 < 3 → scopeShadows_run r0 r1 = true := by
  intro r0 r1 h0 h1
  have m0 : r0 ∈ [0, 1, 2, 3, 4, 5, 6, 7, 8, 9, 10, 11, 12, 13, 14, 15, 16, 17, 18, 19] := by simp; omega
  have m1 : r1 ∈ [0, 1, 2] := by simp; omega
  have k_0 : ∀ z ∈ [0, 1, 2], scopeShadows_run 0 z = true := fun z hz => by
      simp only [List.mem_cons, List.not_mem_nil, or_false] at hz
      rcases hz with rfl | rfl | rfl
      · exact allL_mem.1 scopeShadows_r_0_0 0 (by simp)
      · exact allL_mem.1 scopeShadows_r_0_1 1 (by simp)
      · exact allL_mem.1 scopeShadows_r_0_2 2 (by simp)
  have k_1 : ∀ z ∈ [0, 1, 2], scopeShadows_run 1 z = true := fun z hz => by
      simp only [List.mem_cons, List.not_mem_nil, or_false] at hz
      rcases hz with rfl | rfl | rfl
      · exact allL_mem.1 scopeShadows_r_1_0 0 (by simp)
      · exact allL_mem.1 scopeShadows_r_1_1 1 (by simp)
      · exact allL_mem.1 scopeShadows_r_1_2 2 (by simp)
  have k_2 : ∀ z ∈ [0, 1, 2], scopeShadows_run 2 z = true := fun z hz => by
      simp only [List.mem_cons, List.not_mem_nil, or_false] at hz
      rcases hz with rfl | rfl | rfl
      · exact allL_mem.1 scopeShadows_r_2_0 0 (by simp)
      · exact allL_mem.1 scopeShadows_r_2_1 1 (by simp)
      · exact allL_mem.1 scopeShadows_r_2_2 2 (by simp)
  have k_3 : ∀ z ∈ [0, 1, 2], scopeShadows_run 3 z = true := fun z hz => by
      simp only [List.mem_cons, List.not_mem_nil, or_false] at hz
      rcases hz with rfl | rfl | rfl
      · exact allL_mem.1 scopeShadows_r_3_0 0 (by simp)
      · exact allL_mem.1 scopeShadows_r_3_1 1 (by simp)
      · exact allL_mem.1 scopeShadows_r_3_2 2 (by simp)
  have k_4 : ∀ z ∈ [0, 1, 2], scopeShadows_run 4 z = true := fun z hz => by
      simp only [List.mem_cons, List.not_mem_nil, or_false] at hz
      rcases hz with rfl | rfl | rfl
      · exact allL_mem.1 scopeShadows_r_4_0 0 (by simp)
      · exact allL_mem.1 scopeShadows_r_4_1 1 (by simp)
      · exact allL_mem.1 scopeShadows_r_4_2 2 (by simp)
  have k_5 : ∀ z ∈ [0, 1, 2], scopeShadows_run 5 z = true := fun z hz => by
      simp only [List.mem_cons, List.not_mem_nil, or_false] at hz
      rcases hz with rfl | rfl | rfl
      · exact allL_mem.1 scopeShadows_r_5_0 0 (by simp)
      · exact allL_mem.1 scopeShadows_r_5_1 1 (by simp)
      · exact allL_mem.1 scopeShadows_r_5_2 2 (by simp)
  have k_6 : ∀ z ∈ [0, 1, 2], scopeShadows_run 6 z = true := fun z hz => by
      simp only [List.mem_cons, List.not_mem_nil, or_false] at hz
      rcases hz with rfl | rfl | rfl
      · exact allL_mem.1 scopeShadows_r_6_0 0 (by simp)
      · exact allL_mem.1 scopeShadows_r_6_1 1 (by simp)
      · exact allL_mem.1 scopeShadows_r_6_2 2 (by simp)
  have k_7 : ∀ z ∈ [0, 1, 2], scopeShadows_run 7 z = true := fun z hz => by
      simp only [List.mem_cons, List.not_mem_nil, or_false] at hz
      rcases hz with rfl | rfl | rfl
      · exact allL_mem.1 scopeShadows_r_7_0 0 (by simp)
      · exact allL_mem.1 scopeShadows_r_7_1 1 (by simp)
      · exact allL_mem.1 scopeShadows_r_7_2 2 (by simp)
  have k_8 : ∀ z ∈ [0, 1, 2], scopeShadows_run 8 z = true := fun z hz => by
      simp only [List.mem_cons, List.not_mem_nil, or_false] at hz
      rcases hz with rfl | rfl | rfl
      · exact allL_mem.1 scopeShadows_r_8_0 0 (by simp)
      · exact allL_mem.1 scopeShadows_r_8_1 1 (by simp)
      · exact allL_mem.1 scopeShadows_r_8_2 2 (by simp)
  have k_9 : ∀ z ∈ [0, 1, 2], scopeShadows_run 9 z = true := fun z hz => by
      simp only [List.mem_cons, List.not_mem_nil, or_false] at hz
      rcases hz with rfl | rfl | rfl
      · exact allL_mem.1 scopeShadows_r_9_0 0 (by simp)
      · exact allL_mem.1 scopeShadows_r_9_1 1 (by simp)
      · exact allL_mem.1 scopeShadows_r_9_2 2 (by simp)
  have k_10 : ∀ z ∈ [0, 1, 2], scopeShadows_run 10 z = true := fun z hz => by
      simp only [List.mem_cons, List.not_mem_nil, or_false] at hz
      rcases hz with rfl | rfl | rfl
      · exact allL_mem.1 scopeShadows_r_10_0 0 (by simp)
      · exact allL_mem.1 scopeShadows_r_10_1 1 (by simp)
      · exact allL_mem.1 scopeShadows_r_10_2 2 (by simp)
  have k_11 : ∀ z ∈ [0, 1, 2], scopeShadows_run 11 z = true := fun z hz => by
      simp only [List.mem_cons, List.not_mem_nil, or_false] at hz
      rcases hz with rfl | rfl | rfl
      · exact allL_mem.1 scopeShadows_r_11_0 0 (by simp)
      · exact allL_mem.1 scopeShadows_r_11_1 1 (by simp)
      · exact allL_mem.1 scopeShadows_r_11_2 2 (by simp)
  have k_12 : ∀ z ∈ [0, 1, 2], scopeShadows_run 12 z = true := fun z hz => by
      simp only [List.mem_cons, List.not_mem_nil, or_false] at hz
      rcases hz with rfl | rfl | rfl
      · exact allL_mem.1 scopeShadows_r_12_0 0 (by simp)
      · exact allL_mem.1 scopeShadows_r_12_1 1 (by simp)
      · exact allL_mem.1 scopeShadows_r_12_2 2 (by simp)
  have k_13 : ∀ z ∈ [0, 1, 2], scopeShadows_run 13 z = true := fun z hz => by
      simp only [List.mem_cons, List.not_mem_nil, or_false] at hz
      rcases hz with rfl | rfl | rfl
      · exact allL_mem.1 scopeShadows_r_13_0 0 (by simp)
      · exact allL_mem.1 scopeShadows_r_13_1 1 (by simp)
      · exact allL_mem.1 scopeShadows_r_13_2 2 (by simp)
  have k_14 : ∀ z ∈ [0, 1, 2], scopeShadows_run 14 z = true := fun z hz => by
      simp only [List.mem_cons, List.not_mem_nil, or_false] at hz
      rcases hz with rfl | rfl | rfl
      · exact allL_mem.1 scopeShadows_r_14_0 0 (by simp)
      · exact allL_mem.1 scopeShadows_r_14_1 1 (by simp)
      · exact allL_mem.1 scopeShadows_r_14_2 2 (by simp)
  have k_15 : ∀ z ∈ [0, 1, 2], scopeShadows_run 15 z = true := fun z hz => by
      simp only [List.mem_cons, List.not_mem_nil, or_false] at hz
      rcases hz with rfl | rfl | rfl
      · exact allL_mem.1 scopeShadows_r_15_0 0 (by simp)
      · exact allL_mem.1 scopeShadows_r_15_1 1 (by simp)
      · exact allL_mem.1 scopeShadows_r_15_2 2 (by simp)
  have k_16 : ∀ z ∈ [0, 1, 2], scopeShadows_run 16 z = true := fun z hz => by
      simp only [List.mem_cons, List.not_mem_nil, or_false] at hz
      rcases hz with rfl | rfl | rfl
      · exact allL_mem.1 scopeShadows_r_16_0 0 (by simp)
      · exact allL_mem.1 scopeShadows_r_16_1 1 (by simp)
      · exact allL_mem.1 scopeShadows_r_16_2 2 (by simp)
  have k_17 : ∀ z ∈ [0, 1, 2], scopeShadows_run 17 z = true := fun z hz => by
      simp only [List.mem_cons, List.not_mem_nil, or_false] at hz
      rcases hz with rfl | rfl | rfl
      · exact allL_mem.1 scopeShadows_r_17_0 0 (by simp)
      · exact allL_mem.1 scopeShadows_r_17_1 1 (by simp)
      · exact allL_mem.1 scopeShadows_r_17_2 2 (by simp)
  have k_18 : ∀ z ∈ [0, 1, 2], scopeShadows_run 18 z = true := fun z hz => by
      simp only [List.mem_cons, List.not_mem_nil, or_false] at hz
      rcases hz with rfl | rfl | rfl
      · exact allL_mem.1 scopeShadows_r_18_0 0 (by simp)
      · exact allL_mem.1 scopeShadows_r_18_1 1 (by simp)
      · exact allL_mem.1 scopeShadows_r_18_2 2 (by simp)
  have k_19 : ∀ z ∈ [0, 1, 2], scopeShadows_run 19 z = true := fun z hz => by
      simp only [List.mem_cons, List.not_mem_nil, or_false] at hz
      rcases hz with rfl | rfl | rfl
      · exact allL_mem.1 scopeShadows_r_19_0 0 (by simp)
      · exact allL_mem.1 scopeShadows_r_19_1 1 (by simp)
      · exact allL_mem.1 scopeShadows_r_19_2 2 (by simp)
  simp only [List.mem_cons, List.not_mem_nil, or_false] at m0
  rcases m0 with rfl | rfl | rfl | rfl | rfl | rfl | rfl | rfl | rfl | rfl | rfl | rfl | rfl | rfl | rfl | rfl | rfl | rfl | rfl | rfl
  · skip
    exact k_0 r1 m1
  · skip
    exact k_1 r1 m1
  · skip
    exact k_2 r1 m1
  · skip
    exact k_3 r1 m1
  · skip
    exact k_4 r1 m1
  · skip
    exact k_5 r1 m1
  · skip
    exact k_6 r1 m1
  · skip
    exact k_7 r1 m1
  · skip
    exact k_8 r1 m1
  · skip
    exact k_9 r1 m1
  · skip
    exact k_10 r1 m1
  · skip
    exact k_11 r1 m1
  · skip
    exact k_12 r1 m1
  · skip
    exact k_13 r1 m1
  · skip
    exact k_14 r1 m1
  · skip
    exact k_15 r1 m1
  · skip
    exact k_16 r1 m1
  · skip
    exact k_17 r1 m1
  · skip
    exact k_18 r1 m1
  · skip
    exact k_19 r1 m1
theorem scopeShadows_any (x0 : Int) (x1 : Int) {p0 : Prop} (_q0 : p0) {p1 : Prop} (_q1 : p1) (W : World) (ht : ∀ sy : Nat → Value, ∃ size ea ez, Starts sy (gsFrom 173 scopeShadows_tabs 1024 scopeShadows_errs) (esFrom 1024 scopeShadows_errs) W size ea ez) :
    Calls Tryz.prog 4 #[.int .i64 x0, .int .i64 x1] W fun e w' => e = .returned (.bool true) ∧ Go.RowKit.Below W.heap.size W w' := by
  obtain ⟨size, ea, ez, hs⟩ := ht (fun j => .int .i64 ((fun j => if j = 0 then x0 else if j = 1 then x1 else 0 : Nat → Int) j))
  have b0 := Int.emod_nonneg x0 (show (20 : Int) ≠ 0 by decide)
  have c0 := Int.emod_lt_of_pos x0 (show (0 : Int) < 20 by decide)
  have b1 := Int.emod_nonneg x1 (show (3 : Int) ≠ 0 by decide)
  have c1 := Int.emod_lt_of_pos x1 (show (0 : Int) < 3 by decide)
  have hrun := scopeShadows_all (x0 % 20).toNat (x1 % 3).toNat (by omega) (by omega)
  unfold scopeShadows_run at hrun
  obtain ⟨s', hrun⟩ := isT_some hrun
  have hbase : OvOk (fun j => .int .i64 ((fun j => if j = 0 then x0 else if j = 1 then x1 else 0 : Nat → Int) j)) Tryz.prog (scopeShadows_base (x0 % 20).toNat (x1 % 3).toNat) := by
    refine (hStr_ok (hCopy_ok (hNum_ok (xs := fun j => if j = 0 then x0 else if j = 1 then x1 else 0) (fun x m h1 h2 w => number_any x m h1 h2 w) ⟨_, Tryz.func6, by kernel_rfl, by kernel_rfl⟩ (fun j _ _ _ => rfl) (rests_ok ?_)) bld_ok) bld_ok)
    intro y hy
    simp only [List.mem_cons, List.not_mem_nil, or_false] at hy
    rcases hy with rfl | rfl
    · simp; omega
    · simp; omega
  refine closedF hs hbase hrun ?_
  · exact ⟨_, _, rfl, ⟨rfl, trivial⟩, ⟨_, _, rfl, ⟨rfl, trivial⟩, rfl⟩⟩
end Go.Proofs.YtknljgjjaifjhaaGreatDoor
