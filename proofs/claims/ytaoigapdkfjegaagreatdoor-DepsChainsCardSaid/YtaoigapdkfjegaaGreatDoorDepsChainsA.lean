/- DepsChains: called with any arguments, the law answers true, and what lay in memory stands. Conditions: the listed variables read as start-up lays them. -/
import Derived.Test.YtaoigapdkfjegaaGreatDoorDepsChainsR0
import Derived.Test.YtaoigapdkfjegaaGreatDoorDepsChainsR1
import Derived.Test.YtaoigapdkfjegaaGreatDoorDepsChainsR2
import Derived.Test.YtaoigapdkfjegaaGreatDoorDepsChainsR3
import Derived.Test.YtaoigapdkfjegaaGreatDoorDepsChainsR4
import Derived.Test.YtaoigapdkfjegaaGreatDoorNumber
import Derived.Test.YtaoigapdkfjegaaGreatDoorBld
namespace Go.Proofs.YtaoigapdkfjegaaGreatDoor
open Go.Ex
theorem depsChains_all : ∀ (r0 : Nat) (r1 : Bool), r0 < 9 → depsChains_run r0 r1 = true := by
  intro r0 r1 h0
  have m0 : r0 ∈ [0, 1, 2, 3, 4, 5, 6, 7, 8] := by simp; omega
  have m1 : r1 ∈ [false, true] := by cases r1 <;> simp
  have k_0 : ∀ z ∈ [false, true], depsChains_run 0 z = true := fun z hz => by
      simp only [List.mem_cons, List.not_mem_nil, or_false] at hz
      rcases hz with rfl | rfl
      · exact allL_mem.1 depsChains_r_0_false false (by simp)
      · exact allL_mem.1 depsChains_r_0_true true (by simp)
  have k_1 : ∀ z ∈ [false, true], depsChains_run 1 z = true := fun z hz => by
      simp only [List.mem_cons, List.not_mem_nil, or_false] at hz
      rcases hz with rfl | rfl
      · exact allL_mem.1 depsChains_r_1_false false (by simp)
      · exact allL_mem.1 depsChains_r_1_true true (by simp)
  have k_2 : ∀ z ∈ [false, true], depsChains_run 2 z = true := fun z hz => by
      simp only [List.mem_cons, List.not_mem_nil, or_false] at hz
      rcases hz with rfl | rfl
      · exact allL_mem.1 depsChains_r_2_false false (by simp)
      · exact allL_mem.1 depsChains_r_2_true true (by simp)
  have k_3 : ∀ z ∈ [false, true], depsChains_run 3 z = true := fun z hz => by
      simp only [List.mem_cons, List.not_mem_nil, or_false] at hz
      rcases hz with rfl | rfl
      · exact allL_mem.1 depsChains_r_3_false false (by simp)
      · exact allL_mem.1 depsChains_r_3_true true (by simp)
  have k_4 : ∀ z ∈ [false, true], depsChains_run 4 z = true := fun z hz => by
      simp only [List.mem_cons, List.not_mem_nil, or_false] at hz
      rcases hz with rfl | rfl
      · exact allL_mem.1 depsChains_r_4_false false (by simp)
      · exact allL_mem.1 depsChains_r_4_true true (by simp)
  have k_5 : ∀ z ∈ [false, true], depsChains_run 5 z = true := fun z hz => by
      simp only [List.mem_cons, List.not_mem_nil, or_false] at hz
      rcases hz with rfl | rfl
      · exact allL_mem.1 depsChains_r_5_false false (by simp)
      · exact allL_mem.1 depsChains_r_5_true true (by simp)
  have k_6 : ∀ z ∈ [false, true], depsChains_run 6 z = true := fun z hz => by
      simp only [List.mem_cons, List.not_mem_nil, or_false] at hz
      rcases hz with rfl | rfl
      · exact allL_mem.1 depsChains_r_6_false false (by simp)
      · exact allL_mem.1 depsChains_r_6_true true (by simp)
  have k_7 : ∀ z ∈ [false, true], depsChains_run 7 z = true := fun z hz => by
      simp only [List.mem_cons, List.not_mem_nil, or_false] at hz
      rcases hz with rfl | rfl
      · exact allL_mem.1 depsChains_r_7_false false (by simp)
      · exact allL_mem.1 depsChains_r_7_true true (by simp)
  have k_8 : ∀ z ∈ [false, true], depsChains_run 8 z = true := fun z hz => by
      simp only [List.mem_cons, List.not_mem_nil, or_false] at hz
      rcases hz with rfl | rfl
      · exact allL_mem.1 depsChains_r_8_false false (by simp)
      · exact allL_mem.1 depsChains_r_8_true true (by simp)
  simp only [List.mem_cons, List.not_mem_nil, or_false] at m0
  rcases m0 with rfl | rfl | rfl | rfl | rfl | rfl | rfl | rfl | rfl
  · skip
    exact k_0 r1 m1
  · skip
    exact k_1 r1 m1
  · skip
    exact k_2 r1 m1
  · skip
    exact k_3 r1 m1
  · skip
    exact k_4 r1 m1
  · skip
    exact k_5 r1 m1
  · skip
    exact k_6 r1 m1
  · skip
    exact k_7 r1 m1
  · skip
    exact k_8 r1 m1
theorem depsChains_any (x0 : Int) (x1 : Bool) {p0 : Prop} (_q0 : p0) (W : World) (ht : ∀ sy : Nat → Value, ∃ size ea ez, Starts sy (gsFrom 171 depsChains_tabs 1024 depsChains_errs) (esFrom 1024 depsChains_errs) W size ea ez) :
    Calls Tryz.prog 3 #[.int .i64 x0, .bool x1] W fun e w' => e = .returned (.bool true) ∧ Go.RowKit.Below W.heap.size W w' := by
  obtain ⟨size, ea, ez, hs⟩ := ht (fun j => .int .i64 ((fun j => if j = 0 then x0 else 0 : Nat → Int) j))
  have b0 := Int.emod_nonneg x0 (show (9 : Int) ≠ 0 by decide)
  have c0 := Int.emod_lt_of_pos x0 (show (0 : Int) < 9 by decide)
  have hrun := depsChains_all (x0 % 9).toNat x1 (by omega)
  unfold depsChains_run at hrun
  obtain ⟨s', hrun⟩ := isT_some hrun
  have hbase : OvOk (fun j => .int .i64 ((fun j => if j = 0 then x0 else 0 : Nat → Int) j)) Tryz.prog (depsChains_base (x0 % 9).toNat x1) := by
    refine (hStr_ok (hCopy_ok (hNum_ok (xs := fun j => if j = 0 then x0 else 0) (fun x m h1 h2 w => number_any x m h1 h2 w) ⟨_, Tryz.func6, by kernel_rfl, by kernel_rfl⟩ (fun j _ _ _ => rfl) (rests_ok ?_)) bld_ok) bld_ok)
    intro y hy
    simp only [List.mem_cons, List.not_mem_nil, or_false] at hy
    rcases hy with rfl
    · simp; omega
  refine closedF hs hbase hrun ?_
  · exact ⟨_, _, rfl, ⟨rfl, trivial⟩, ⟨_, _, rfl, rfl, rfl⟩⟩
end Go.Proofs.YtaoigapdkfjegaaGreatDoor
