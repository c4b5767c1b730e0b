/- SynDeep: called with any arguments, the law answers true, and what lay in memory stands. Conditions: the listed variables read as start-up lays them. -/
import Derived.Test.YtkbdnegafidbcaaGreatDoorSynDeepR0
import Derived.Test.YtkbdnegafidbcaaGreatDoorSynDeepR1
import Derived.Test.YtkbdnegafidbcaaGreatDoorSynDeepR2
import Derived.Test.YtkbdnegafidbcaaGreatDoorSynDeepR3
import Derived.Test.YtkbdnegafidbcaaGreatDoorSynDeepR4
import Derived.Test.YtkbdnegafidbcaaGreatDoorNumber
import Derived.Test.YtkbdnegafidbcaaGreatDoorClone
import Derived.Test.YtkbdnegafidbcaaGreatDoorBld
import Derived.Test.YtkbdnegafidbcaaGreatDoorIdx
import Derived.Test.YtkbdnegafidbcaaGreatDoorAsOk
namespace Go.Proofs.YtkbdnegafidbcaaGreatDoor
open Go.Ex
theorem synDeep_wrap {n : Int} (h : (Lit.int .i64 n).wf = true) : IntKind.i64.wrap n = n := by
  simp only [Lit.wf, Bool.and_eq_true, decide_eq_true_eq] at h
  obtain ⟨h1, h2⟩ := h
  have e1 : IntKind.i64.min = -9223372036854775808 := by decide
  have e2 : IntKind.i64.max = 9223372036854775807 := by decide
  rw [e1] at h1
  rw [e2] at h2
  have e3 : IntKind.i64.wrap n = if n % 18446744073709551616 ≥ 9223372036854775808 then n % 18446744073709551616 - 18446744073709551616 else n % 18446744073709551616 := by
    unfold IntKind.wrap
    simp [IntKind.bits, IntKind.signed]
  rw [e3]
  split <;> omega
theorem synDeep_all : ∀ (r0 : Nat), r0 < 5 → synDeep_run r0 = true := by
  intro r0 h0
  have m0 : r0 ∈ [0, 1, 2, 3, 4] := by simp; omega
  have key : ∀ z ∈ [0, 1, 2, 3, 4], synDeep_run z = true := fun z hz => by
      simp only [List.mem_cons, List.not_mem_nil, or_false] at hz
      rcases hz with rfl | rfl | rfl | rfl | rfl
      · exact allL_mem.1 synDeep_r_0 0 (by simp)
      · exact allL_mem.1 synDeep_r_1 1 (by simp)
      · exact allL_mem.1 synDeep_r_2 2 (by simp)
      · exact allL_mem.1 synDeep_r_3 3 (by simp)
      · exact allL_mem.1 synDeep_r_4 4 (by simp)
  exact key r0 m0
theorem synDeep_any (x0 : Int) (q0 : (Lit.int .i64 x0).wf = true) (W : World) (ht : ∀ sy : Nat → Value, ∃ size ea ez, Starts sy (gsFrom 275 synDeep_tabs 1024 synDeep_errs) (esFrom 1024 synDeep_errs) W size ea ez) :
    Calls Tryz.prog 3 #[.int .i64 x0] W fun e w' => e = .returned (.bool true) ∧ Go.RowKit.Below W.heap.size W w' := by
  obtain ⟨size, ea, ez, hs⟩ := ht (fun j => .int .i64 ((fun j => if j = 0 then x0 else 0 : Nat → Int) j))
  have b0 := Int.emod_nonneg x0 (show (5 : Int) ≠ 0 by decide)
  have c0 := Int.emod_lt_of_pos x0 (show (0 : Int) < 5 by decide)
  have hrun := synDeep_all (x0 % 5).toNat (by omega)
  unfold synDeep_run at hrun
  obtain ⟨s', hrun⟩ := isT_some hrun
  have hbase : OvOk (fun j => .int .i64 ((fun j => if j = 0 then x0 else 0 : Nat → Int) j)) Tryz.prog (synDeep_base (x0 % 5).toNat) := by
    refine (hAs_ok (hIdx_ok (hStr_ok (hCopy_ok (hClone_ok (hClone_ok (hNum_ok (xs := fun j => if j = 0 then x0 else 0) (fun x m h1 h2 w => number_any x m h1 h2 w) ⟨_, Tryz.func5, by kernel_rfl, by kernel_rfl⟩ (fun j _ _ _ => rfl) (rests_ok ?_)) (fun s w h => clone_any s w h) ⟨_, Tryz.func78, by kernel_rfl, by kernel_rfl⟩) (fun s w h => lite_clone s w h) ⟨_, Tryz.func121, by kernel_rfl, by kernel_rfl⟩) bld_ok) bld_ok) (fun s c w => idx_any s c w) ⟨_, Tryz.func198, by kernel_rfl, by kernel_rfl⟩) as_ok (by decide) (by decide))
    intro y hy
    simp only [List.mem_cons, List.not_mem_nil, or_false] at hy
    rcases hy with rfl
    · simp; omega
  refine closedF hs (synDeep_ovok (x0 % 5).toNat hbase) hrun ?_
  · exact ⟨_, _, rfl, ⟨rfl, _, rfl, synDeep_wrap q0, fun hge => absurd hge (by decide), fun hge => absurd hge (by decide)⟩, rfl⟩
end Go.Proofs.YtkbdnegafidbcaaGreatDoor
