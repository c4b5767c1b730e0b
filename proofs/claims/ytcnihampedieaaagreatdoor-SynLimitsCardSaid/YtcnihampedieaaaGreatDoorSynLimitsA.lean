/- SynLimits: called with any arguments, the law answers true, and what lay in memory stands. Conditions: the listed variables read as start-up lays them. -/
import Derived.Test.YtcnihampedieaaaGreatDoorSynLimitsR0
import Derived.Test.YtcnihampedieaaaGreatDoorSynLimitsR1
import Derived.Test.YtcnihampedieaaaGreatDoorSynLimitsR2
import Derived.Test.YtcnihampedieaaaGreatDoorSynLimitsR3
import Derived.Test.YtcnihampedieaaaGreatDoorSynLimitsR4
import Derived.Test.YtcnihampedieaaaGreatDoorSynLimitsR5
import Derived.Test.YtcnihampedieaaaGreatDoorSynLimitsR6
import Derived.Test.YtcnihampedieaaaGreatDoorNumber
import Derived.Test.YtcnihampedieaaaGreatDoorClone
import Derived.Test.YtcnihampedieaaaGreatDoorBld
import Derived.Test.YtcnihampedieaaaGreatDoorAsOk
namespace Go.Proofs.YtcnihampedieaaaGreatDoor
open Go.Ex
theorem synLimits_all : ∀ (r0 : Nat) (r1 : Nat), r0 < 5 → r1 < 4 → synLimits_run r0 r1 = true := by
  intro r0 r1 h0 h1
  have m0 : r0 ∈ [0, 1, 2, 3, 4] := by simp; omega
  have m1 : r1 ∈ [0, 1, 2, 3] := by simp; omega
  have k_0 : ∀ z ∈ [0, 1, 2, 3], synLimits_run 0 z = true := fun z hz => by
      simp only [List.mem_cons, List.not_mem_nil, or_false] at hz
      rcases hz with rfl | rfl | rfl | rfl
      · exact allL_mem.1 synLimits_r_0_0 0 (by simp)
      · exact allL_mem.1 synLimits_r_0_1 1 (by simp)
      · exact allL_mem.1 synLimits_r_0_2 2 (by simp)
      · exact allL_mem.1 synLimits_r_0_3 3 (by simp)
  have k_1 : ∀ z ∈ [0, 1, 2, 3], synLimits_run 1 z = true := fun z hz => by
      simp only [List.mem_cons, List.not_mem_nil, or_false] at hz
      rcases hz with rfl | rfl | rfl | rfl
      · exact allL_mem.1 synLimits_r_1_0 0 (by simp)
      · exact allL_mem.1 synLimits_r_1_1 1 (by simp)
      · exact allL_mem.1 synLimits_r_1_2 2 (by simp)
      · exact allL_mem.1 synLimits_r_1_3 3 (by simp)
  have k_2 : ∀ z ∈ [0, 1, 2, 3], synLimits_run 2 z = true := fun z hz => by
      simp only [List.mem_cons, List.not_mem_nil, or_false] at hz
      rcases hz with rfl | rfl | rfl | rfl
      · exact allL_mem.1 synLimits_r_2_0 0 (by simp)
      · exact allL_mem.1 synLimits_r_2_1 1 (by simp)
      · exact allL_mem.1 synLimits_r_2_2 2 (by simp)
      · exact allL_mem.1 synLimits_r_2_3 3 (by simp)
  have k_3 : ∀ z ∈ [0, 1, 2, 3], synLimits_run 3 z = true := fun z hz => by
      simp only [List.mem_cons, List.not_mem_nil, or_false] at hz
      rcases hz with rfl | rfl | rfl | rfl
      · exact allL_mem.1 synLimits_r_3_0 0 (by simp)
      · exact allL_mem.1 synLimits_r_3_1 1 (by simp)
      · exact allL_mem.1 synLimits_r_3_2 2 (by simp)
      · exact allL_mem.1 synLimits_r_3_3 3 (by simp)
  have k_4 : ∀ z ∈ [0, 1, 2, 3], synLimits_run 4 z = true := fun z hz => by
      simp only [List.mem_cons, List.not_mem_nil, or_false] at hz
      rcases hz with rfl | rfl | rfl | rfl
      · exact allL_mem.1 synLimits_r_4_0 0 (by simp)
      · exact allL_mem.1 synLimits_r_4_1 1 (by simp)
      · exact allL_mem.1 synLimits_r_4_2 2 (by simp)
      · exact allL_mem.1 synLimits_r_4_3 3 (by simp)
  simp only [List.mem_cons, List.not_mem_nil, or_false] at m0
  rcases m0 with rfl | rfl | rfl | rfl | rfl
  · skip
    exact k_0 r1 m1
  · skip
    exact k_1 r1 m1
  · skip
    exact k_2 r1 m1
  · skip
    exact k_3 r1 m1
  · skip
    exact k_4 r1 m1
theorem synLimits_any (x0 : Int) (x1 : Int) {p0 : Prop} (_q0 : p0) {p1 : Prop} (_q1 : p1) (W : World) (ht : ∀ sy : Nat → Value, ∃ size ea ez, Starts sy (gsFrom 349 synLimits_tabs 1024 synLimits_errs) (esFrom 1024 synLimits_errs) W size ea ez) :
    Calls Tryz.prog 6 #[.int .i64 x0, .int .i64 x1] W fun e w' => e = .returned (.bool true) ∧ Go.RowKit.Below W.heap.size W w' := by
  obtain ⟨size, ea, ez, hs⟩ := ht (fun j => .int .i64 ((fun j => if j = 0 then x0 else if j = 1 then x1 else 0 : Nat → Int) j))
  have b0 := Int.emod_nonneg x0 (show (5 : Int) ≠ 0 by decide)
  have c0 := Int.emod_lt_of_pos x0 (show (0 : Int) < 5 by decide)
  have b1 := Int.emod_nonneg x1 (show (4 : Int) ≠ 0 by decide)
  have c1 := Int.emod_lt_of_pos x1 (show (0 : Int) < 4 by decide)
  have hrun := synLimits_all (x0 % 5).toNat (x1 % 4).toNat (by omega) (by omega)
  unfold synLimits_run at hrun
  obtain ⟨s', hrun⟩ := isT_some hrun
  have hbase : OvOk (fun j => .int .i64 ((fun j => if j = 0 then x0 else if j = 1 then x1 else 0 : Nat → Int) j)) Tryz.prog (synLimits_base (x0 % 5).toNat (x1 % 4).toNat) := by
    refine (hAs_ok (hStr_ok (hCopy_ok (hClone_ok (hNum_ok (xs := fun j => if j = 0 then x0 else if j = 1 then x1 else 0) (fun x m h1 h2 w => number_any x m h1 h2 w) ⟨_, Tryz.func23, by kernel_rfl, by kernel_rfl⟩ (fun j _ _ _ => rfl) (rests_ok ?_)) (fun s w h => clone_any s w h) ⟨_, Tryz.func131, by kernel_rfl, by kernel_rfl⟩) bld_ok) bld_ok) as_ok (by decide) (by decide))
    intro y hy
    simp only [List.mem_cons, List.not_mem_nil, or_false] at hy
    rcases hy with rfl | rfl
    · simp; omega
    · simp; omega
  refine closedF hs (synLimits_ovok (x0 % 5).toNat (x1 % 4).toNat hbase) hrun ?_
  · exact ⟨_, _, rfl, ⟨rfl, trivial⟩, ⟨_, _, rfl, ⟨rfl, trivial⟩, rfl⟩⟩
end Go.Proofs.YtcnihampedieaaaGreatDoor
