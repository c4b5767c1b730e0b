/- MeanLists: called with any arguments, the law answers true, and what lay in memory stands. Conditions: the listed variables read as start-up lays them. -/
import Derived.Test.YtogemcnajcaeoaaGreatDoorMeanListsR0
import Derived.Test.YtogemcnajcaeoaaGreatDoorMeanListsR1
import Derived.Test.YtogemcnajcaeoaaGreatDoorMeanListsR2
import Derived.Test.YtogemcnajcaeoaaGreatDoorMeanListsR3
import Derived.Test.YtogemcnajcaeoaaGreatDoorNumber
import Derived.Test.YtogemcnajcaeoaaGreatDoorBld
namespace Go.Proofs.YtogemcnajcaeoaaGreatDoor
open Go.Ex
theorem meanLists_wrap {n : Int} (h : (Lit.int .i64 n).wf = true) : IntKind.i64.wrap n = n := by
  simp only [Lit.wf, Bool.and_eq_true, decide_eq_true_eq] at h
  obtain ⟨h1, h2⟩ := h
  have e1 : IntKind.i64.min = -9223372036854775808 := by decide
  have e2 : IntKind.i64.max = 9223372036854775807 := by decide
  rw [e1] at h1
  rw [e2] at h2
  have e3 : IntKind.i64.wrap n = if n % 18446744073709551616 ≥ 9223372036854775808 then n % 18446744073709551616 - 18446744073709551616 else n % 18446744073709551616 := by
    unfold IntKind.wrap
    simp [IntKind.bits, IntKind.signed]
  rw [e3]
  split <;> omega
theorem meanLists_all : ∀ (r0 : Nat), r0 < 12 → meanLists_run r0 = true := by
  intro r0 h0
  have m0 : r0 ∈ [0, 1, 2, 3, 4, 5, 6, 7, 8, 9, 10, 11] := by simp; omega
  have key : ∀ z ∈ [0, 1, 2, 3, 4, 5, 6, 7, 8, 9, 10, 11], meanLists_run z = true := fun z hz => by
      simp only [List.mem_cons, List.not_mem_nil, or_false] at hz
      rcases hz with rfl | rfl | rfl | rfl | rfl | rfl | rfl | rfl | rfl | rfl | rfl | rfl
      · exact allL_mem.1 meanLists_r_0 0 (by simp)
      · exact allL_mem.1 meanLists_r_1 1 (by simp)
      · exact allL_mem.1 meanLists_r_2 2 (by simp)
      · exact allL_mem.1 meanLists_r_3 3 (by simp)
      · exact allL_mem.1 meanLists_r_4 4 (by simp)
      · exact allL_mem.1 meanLists_r_5 5 (by simp)
      · exact allL_mem.1 meanLists_r_6 6 (by simp)
      · exact allL_mem.1 meanLists_r_7 7 (by simp)
      · exact allL_mem.1 meanLists_r_8 8 (by simp)
      · exact allL_mem.1 meanLists_r_9 9 (by simp)
      · exact allL_mem.1 meanLists_r_10 10 (by simp)
      · exact allL_mem.1 meanLists_r_11 11 (by simp)
  exact key r0 m0
theorem meanLists_any (x0 : Int) (q0 : (Lit.int .i64 x0).wf = true) (W : World) (ht : ∀ sy : Nat → Value, ∃ size ea ez, Starts sy (gsFrom 244 meanLists_tabs 1024 meanLists_errs) (esFrom 1024 meanLists_errs) W size ea ez) :
    Calls Tryz.prog 4 #[.int .i64 x0] W fun e w' => e = .returned (.bool true) ∧ Go.RowKit.Below W.heap.size W w' := by
  obtain ⟨size, ea, ez, hs⟩ := ht (fun j => .int .i64 ((fun j => if j = 0 then x0 else 0 : Nat → Int) j))
  have b0 := Int.emod_nonneg x0 (show (12 : Int) ≠ 0 by decide)
  have c0 := Int.emod_lt_of_pos x0 (show (0 : Int) < 12 by decide)
  have hrun := meanLists_all (x0 % 12).toNat (by omega)
  unfold meanLists_run at hrun
  obtain ⟨s', hrun⟩ := isT_some hrun
  have hbase : OvOk (fun j => .int .i64 ((fun j => if j = 0 then x0 else 0 : Nat → Int) j)) Tryz.prog (meanLists_base (x0 % 12).toNat) := by
    refine (hStr_ok (hCopy_ok (hNum_ok (xs := fun j => if j = 0 then x0 else 0) (fun x m h1 h2 w => number_any x m h1 h2 w) ⟨_, Tryz.func9, by kernel_rfl, by kernel_rfl⟩ (fun j _ _ _ => rfl) (rests_ok ?_)) bld_ok) bld_ok)
    intro y hy
    simp only [List.mem_cons, List.not_mem_nil, or_false] at hy
    rcases hy with rfl
    · simp; omega
  refine closedF hs hbase hrun ?_
  · exact ⟨_, _, rfl, ⟨rfl, _, rfl, meanLists_wrap q0, fun hge => absurd hge (by decide), fun hge => absurd hge (by decide)⟩, rfl⟩
end Go.Proofs.YtogemcnajcaeoaaGreatDoor
