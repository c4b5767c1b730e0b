/- InferRound: called with any arguments, the law answers true, and what lay in memory stands. Conditions: the listed variables read as start-up lays them. -/
import Derived.Test.YthiilelbhdohhaaGreatDoorInferRoundR0
import Derived.Test.YthiilelbhdohhaaGreatDoorInferRoundR1
import Derived.Test.YthiilelbhdohhaaGreatDoorInferRoundR2
import Derived.Test.YthiilelbhdohhaaGreatDoorInferRoundR3
import Derived.Test.YthiilelbhdohhaaGreatDoorNumber
import Derived.Test.YthiilelbhdohhaaGreatDoorBld
import Derived.Test.YthiilelbhdohhaaGreatDoorFmt
namespace Go.Proofs.YthiilelbhdohhaaGreatDoor
open Go.Ex
theorem inferRound_wrap {n : Int} (h : (Lit.int .i64 n).wf = true) : IntKind.i64.wrap n = n := by
  simp only [Lit.wf, Bool.and_eq_true, decide_eq_true_eq] at h
  obtain ⟨h1, h2⟩ := h
  have e1 : IntKind.i64.min = -9223372036854775808 := by decide
  have e2 : IntKind.i64.max = 9223372036854775807 := by decide
  rw [e1] at h1
  rw [e2] at h2
  have e3 : IntKind.i64.wrap n = if n % 18446744073709551616 ≥ 9223372036854775808 then n % 18446744073709551616 - 18446744073709551616 else n % 18446744073709551616 := by
    unfold IntKind.wrap
    simp [IntKind.bits, IntKind.signed]
  rw [e3]
  split <;> omega
theorem inferRound_all : ∀ (r0 : Nat), r0 < 22 → inferRound_run r0 = true := by
  intro r0 h0
  have m0 : r0 ∈ [0, 1, 2, 3, 4, 5, 6, 7, 8, 9, 10, 11, 12, 13, 14, 15, 16, 17, 18, 19, 20, 21] := by simp; omega
  have key : ∀ z ∈ [0, 1, 2, 3, 4, 5, 6, 7, 8, 9, 10, 11, 12, 13, 14, 15, 16, 17, 18, 19, 20, 21], inferRound_run z = true := fun z hz => by
      simp only [List.mem_cons, List.not_mem_nil, or_false] at hz
      rcases hz with rfl | rfl | rfl | rfl | rfl | rfl | rfl | rfl | rfl | rfl | rfl | rfl | rfl | rfl | rfl | rfl | rfl | rfl | rfl | rfl | rfl | rfl
      · exact allL_mem.1 inferRound_r_0 0 (by simp)
      · exact allL_mem.1 inferRound_r_0 1 (by simp)
      · exact allL_mem.1 inferRound_r_2 2 (by simp)
      · exact allL_mem.1 inferRound_r_2 3 (by simp)
      · exact allL_mem.1 inferRound_r_4 4 (by simp)
      · exact allL_mem.1 inferRound_r_4 5 (by simp)
      · exact allL_mem.1 inferRound_r_6 6 (by simp)
      · exact allL_mem.1 inferRound_r_6 7 (by simp)
      · exact allL_mem.1 inferRound_r_8 8 (by simp)
      · exact allL_mem.1 inferRound_r_8 9 (by simp)
      · exact allL_mem.1 inferRound_r_10 10 (by simp)
      · exact allL_mem.1 inferRound_r_10 11 (by simp)
      · exact allL_mem.1 inferRound_r_12 12 (by simp)
      · exact allL_mem.1 inferRound_r_12 13 (by simp)
      · exact allL_mem.1 inferRound_r_14 14 (by simp)
      · exact allL_mem.1 inferRound_r_14 15 (by simp)
      · exact allL_mem.1 inferRound_r_16 16 (by simp)
      · exact allL_mem.1 inferRound_r_16 17 (by simp)
      · exact allL_mem.1 inferRound_r_18 18 (by simp)
      · exact allL_mem.1 inferRound_r_18 19 (by simp)
      · exact allL_mem.1 inferRound_r_20 20 (by simp)
      · exact allL_mem.1 inferRound_r_20 21 (by simp)
  exact key r0 m0
theorem inferRound_any (x0 : Int) (q0 : (Lit.int .i64 x0).wf = true) (W : World) (ht : ∀ sy : Nat → Value, ∃ size ea ez, Starts sy (gsFrom 264 inferRound_tabs 1024 inferRound_errs) (esFrom 1024 inferRound_errs) W size ea ez) :
    Calls Tryz.prog 3 #[.int .i64 x0] W fun e w' => e = .returned (.bool true) ∧ Go.RowKit.Below W.heap.size W w' := by
  obtain ⟨size, ea, ez, hs⟩ := ht (fun j => .int .i64 ((symX (fun j => 0) (fun i => if i = 0 then x0 else 0) : Nat → Int) j))
  obtain ⟨d0, e0, f0, g0⟩ := dig_ok (inferRound_wrap q0)
  have j0 := (show ∀ r ∈ List.range 22, 1000 ≤ inferRound_J0 r ∧ (inferRound_J0 r - 1000) % 8 = 0 ∧ symLen (inferRound_J0 r) = clsLen r ∧ symLo (inferRound_J0 r) = digLo r ∧ symHi (inferRound_J0 r) = digHi r ∧ (symNz (inferRound_J0 r) = 1 → r ≠ 0) by decide +kernel) (digR x0) (List.mem_range.2 g0)
  have inferRound_v0 : ∀ ρ, V (fun j => .int .i64 ((symX (fun j => 0) (fun i => if i = 0 then x0 else 0) : Nat → Int) j)) ρ (.sym (inferRound_J0 (digR x0))) (.int .i64 x0) := fun ρ => by
    obtain ⟨k1, k2, k3, k4, k5, k6⟩ := j0
    refine ⟨?_, x0, rfl, inferRound_wrap q0, fun h1 h2 => absurd k1 (by omega), fun _ => ⟨by rw [k4]; exact d0, by rw [k5]; exact e0, by rw [k3]; exact f0, fun h => digR_nz (k6 h)⟩⟩
    show _ = Value.int .i64 (symX _ _ _)
    rw [symX_at k1 k2]
    rfl
  have hrun := inferRound_all (digR x0) g0
  unfold inferRound_run at hrun
  obtain ⟨s', hrun⟩ := isT_some hrun
  have hbase : OvOk (fun j => .int .i64 ((symX (fun j => 0) (fun i => if i = 0 then x0 else 0) : Nat → Int) j)) Tryz.prog (inferRound_base (digR x0)) := (hStr_ok (hCopy_ok (hFmt_ok .none (fun n w h0 h1 ht => fmt_any n w h0 h1 ht) ⟨_, Tryz.func173, by kernel_rfl, by kernel_rfl⟩) bld_ok) bld_ok)
  have hbase0 : OvOk (fun j => .int .i64 ((symX (fun j => 0) (fun i => if i = 0 then x0 else 0) : Nat → Int) j)) Tryz.prog inferRound_base0 := (hStr_ok (hCopy_ok (hFmt_ok .none (fun n w h0 h1 ht => fmt_any n w h0 h1 ht) ⟨_, Tryz.func173, by kernel_rfl, by kernel_rfl⟩) bld_ok) bld_ok)
  refine closedF hs (inferRound_ovok (digR x0) hbase hbase0) hrun ?_
  · exact ⟨_, _, rfl, inferRound_v0 _, rfl⟩
end Go.Proofs.YthiilelbhdohhaaGreatDoor
