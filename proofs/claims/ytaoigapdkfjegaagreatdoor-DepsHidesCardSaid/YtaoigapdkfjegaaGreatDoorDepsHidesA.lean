/- DepsHides: called with any arguments, the law answers true, and what lay in memory stands. Conditions: the listed variables read as start-up lays them. -/
import Derived.Test.YtaoigapdkfjegaaGreatDoorDepsHidesR0
import Derived.Test.YtaoigapdkfjegaaGreatDoorDepsHidesR1
import Derived.Test.YtaoigapdkfjegaaGreatDoorNumber
import Derived.Test.YtaoigapdkfjegaaGreatDoorBld
namespace Go.Proofs.YtaoigapdkfjegaaGreatDoor
open Go.Ex
theorem depsHides_all : ∀ (r0 : Nat), r0 < 4 → depsHides_run r0 = true := by
  intro r0 h0
  have m0 : r0 ∈ [0, 1, 2, 3] := by simp; omega
  have key : ∀ z ∈ [0, 1, 2, 3], depsHides_run z = true := fun z hz => by
      simp only [List.mem_cons, List.not_mem_nil, or_false] at hz
      rcases hz with rfl | rfl | rfl | rfl
      · exact allL_mem.1 depsHides_r_0 0 (by simp)
      · exact allL_mem.1 depsHides_r_1 1 (by simp)
      · exact allL_mem.1 depsHides_r_2 2 (by simp)
      · exact allL_mem.1 depsHides_r_3 3 (by simp)
  exact key r0 m0
theorem depsHides_any (x0 : Int) {p0 : Prop} (_q0 : p0) (W : World) (ht : ∀ sy : Nat → Value, ∃ size ea ez, Starts sy (gsFrom 171 depsHides_tabs 1024 depsHides_errs) (esFrom 1024 depsHides_errs) W size ea ez) :
    Calls Tryz.prog 4 #[.int .i64 x0] W fun e w' => e = .returned (.bool true) ∧ Go.RowKit.Below W.heap.size W w' := by
  obtain ⟨size, ea, ez, hs⟩ := ht (fun j => .int .i64 ((fun j => if j = 0 then x0 else 0 : Nat → Int) j))
  have b0 := Int.emod_nonneg x0 (show (4 : Int) ≠ 0 by decide)
  have c0 := Int.emod_lt_of_pos x0 (show (0 : Int) < 4 by decide)
  have hrun := depsHides_all (x0 % 4).toNat (by omega)
  unfold depsHides_run at hrun
  obtain ⟨s', hrun⟩ := isT_some hrun
  have hbase : OvOk (fun j => .int .i64 ((fun j => if j = 0 then x0 else 0 : Nat → Int) j)) Tryz.prog (depsHides_base (x0 % 4).toNat) := by
    refine (hStr_ok (hCopy_ok (hNum_ok (xs := fun j => if j = 0 then x0 else 0) (fun x m h1 h2 w => number_any x m h1 h2 w) ⟨_, Tryz.func6, by kernel_rfl, by kernel_rfl⟩ (fun j _ _ _ => rfl) (rests_ok ?_)) bld_ok) bld_ok)
    intro y hy
    simp only [List.mem_cons, List.not_mem_nil, or_false] at hy
    rcases hy with rfl
    · simp; omega
  refine closedF hs hbase hrun ?_
  · exact ⟨_, _, rfl, ⟨rfl, trivial⟩, rfl⟩
end Go.Proofs.YtaoigapdkfjegaaGreatDoor
