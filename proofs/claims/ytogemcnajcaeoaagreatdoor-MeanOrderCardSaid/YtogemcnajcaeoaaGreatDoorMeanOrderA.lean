/- MeanOrder: called with any arguments, the law answers true, and what lay in memory stands. Conditions: the listed variables read as start-up lays them. -/
import Derived.Test.YtogemcnajcaeoaaGreatDoorMeanOrderR0
import Derived.Test.YtogemcnajcaeoaaGreatDoorMeanOrderR1
import Derived.Test.YtogemcnajcaeoaaGreatDoorMeanOrderR2
import Derived.Test.YtogemcnajcaeoaaGreatDoorMeanOrderR3
import Derived.Test.YtogemcnajcaeoaaGreatDoorMeanOrderR4
import Derived.Test.YtogemcnajcaeoaaGreatDoorMeanOrderR5
import Derived.Test.YtogemcnajcaeoaaGreatDoorNumber
import Derived.Test.YtogemcnajcaeoaaGreatDoorBld
import Derived.Test.YtogemcnajcaeoaaGreatDoorFmt
namespace Go.Proofs.YtogemcnajcaeoaaGreatDoor
open Go.Ex
theorem meanOrder_wrap {n : Int} (h : (Lit.int .i64 n).wf = true) : IntKind.i64.wrap n = n := by
  simp only [Lit.wf, Bool.and_eq_true, decide_eq_true_eq] at h
  obtain ⟨h1, h2⟩ := h
  have e1 : IntKind.i64.min = -9223372036854775808 := by decide
  have e2 : IntKind.i64.max = 9223372036854775807 := by decide
  rw [e1] at h1
  rw [e2] at h2
  have e3 : IntKind.i64.wrap n = if n % 18446744073709551616 ≥ 9223372036854775808 then n % 18446744073709551616 - 18446744073709551616 else n % 18446744073709551616 := by
    unfold IntKind.wrap
    simp [IntKind.bits, IntKind.signed]
  rw [e3]
  split <;> omega
theorem meanOrder_all : ∀ (r0 : Nat) (r1 : Nat) (r2 : Nat), r0 < 4 → r1 < 4 → r2 < 5 → meanOrder_run r0 r1 r2 = true := by
  intro r0 r1 r2 h0 h1 h2
  have m0 : r0 ∈ [0, 1, 2, 3] := by simp; omega
  have m1 : r1 ∈ [0, 1, 2, 3] := by simp; omega
  have m2 : r2 ∈ [0, 1, 2, 3, 4] := by simp; omega
  have k_0_0 : ∀ z ∈ [0, 1, 2, 3, 4], meanOrder_run 0 0 z = true := fun z hz => by
      simp only [List.mem_cons, List.not_mem_nil, or_false] at hz
      rcases hz with rfl | rfl | rfl | rfl | rfl
      · exact allL_mem.1 meanOrder_r_0_0_0 0 (by simp)
      · exact allL_mem.1 meanOrder_r_0_0_0 1 (by simp)
      · exact allL_mem.1 meanOrder_r_0_0_0 2 (by simp)
      · exact allL_mem.1 meanOrder_r_0_0_0 3 (by simp)
      · exact allL_mem.1 meanOrder_r_0_0_0 4 (by simp)
  have k_0_1 : ∀ z ∈ [0, 1, 2, 3, 4], meanOrder_run 0 1 z = true := fun z hz => by
      simp only [List.mem_cons, List.not_mem_nil, or_false] at hz
      rcases hz with rfl | rfl | rfl | rfl | rfl
      · exact allL_mem.1 meanOrder_r_0_1_0 0 (by simp)
      · exact allL_mem.1 meanOrder_r_0_1_0 1 (by simp)
      · exact allL_mem.1 meanOrder_r_0_1_0 2 (by simp)
      · exact allL_mem.1 meanOrder_r_0_1_0 3 (by simp)
      · exact allL_mem.1 meanOrder_r_0_1_0 4 (by simp)
  have k_0_2 : ∀ z ∈ [0, 1, 2, 3, 4], meanOrder_run 0 2 z = true := fun z hz => by
      simp only [List.mem_cons, List.not_mem_nil, or_false] at hz
      rcases hz with rfl | rfl | rfl | rfl | rfl
      · exact allL_mem.1 meanOrder_r_0_2_0 0 (by simp)
      · exact allL_mem.1 meanOrder_r_0_2_0 1 (by simp)
      · exact allL_mem.1 meanOrder_r_0_2_0 2 (by simp)
      · exact allL_mem.1 meanOrder_r_0_2_0 3 (by simp)
      · exact allL_mem.1 meanOrder_r_0_2_0 4 (by simp)
  have k_0_3 : ∀ z ∈ [0, 1, 2, 3, 4], meanOrder_run 0 3 z = true := fun z hz => by
      simp only [List.mem_cons, List.not_mem_nil, or_false] at hz
      rcases hz with rfl | rfl | rfl | rfl | rfl
      · exact allL_mem.1 meanOrder_r_0_3_0 0 (by simp)
      · exact allL_mem.1 meanOrder_r_0_3_0 1 (by simp)
      · exact allL_mem.1 meanOrder_r_0_3_0 2 (by simp)
      · exact allL_mem.1 meanOrder_r_0_3_0 3 (by simp)
      · exact allL_mem.1 meanOrder_r_0_3_0 4 (by simp)
  have k_1_0 : ∀ z ∈ [0, 1, 2, 3, 4], meanOrder_run 1 0 z = true := fun z hz => by
      simp only [List.mem_cons, List.not_mem_nil, or_false] at hz
      rcases hz with rfl | rfl | rfl | rfl | rfl
      · exact allL_mem.1 meanOrder_r_1_0_0 0 (by simp)
      · exact allL_mem.1 meanOrder_r_1_0_0 1 (by simp)
      · exact allL_mem.1 meanOrder_r_1_0_0 2 (by simp)
      · exact allL_mem.1 meanOrder_r_1_0_0 3 (by simp)
      · exact allL_mem.1 meanOrder_r_1_0_0 4 (by simp)
  have k_1_1 : ∀ z ∈ [0, 1, 2, 3, 4], meanOrder_run 1 1 z = true := fun z hz => by
      simp only [List.mem_cons, List.not_mem_nil, or_false] at hz
      rcases hz with rfl | rfl | rfl | rfl | rfl
      · exact allL_mem.1 meanOrder_r_1_1_0 0 (by simp)
      · exact allL_mem.1 meanOrder_r_1_1_0 1 (by simp)
      · exact allL_mem.1 meanOrder_r_1_1_0 2 (by simp)
      · exact allL_mem.1 meanOrder_r_1_1_0 3 (by simp)
      · exact allL_mem.1 meanOrder_r_1_1_0 4 (by simp)
  have k_1_2 : ∀ z ∈ [0, 1, 2, 3, 4], meanOrder_run 1 2 z = true := fun z hz => by
      simp only [List.mem_cons, List.not_mem_nil, or_false] at hz
      rcases hz with rfl | rfl | rfl | rfl | rfl
      · exact allL_mem.1 meanOrder_r_1_2_0 0 (by simp)
      · exact allL_mem.1 meanOrder_r_1_2_0 1 (by simp)
      · exact allL_mem.1 meanOrder_r_1_2_0 2 (by simp)
      · exact allL_mem.1 meanOrder_r_1_2_0 3 (by simp)
      · exact allL_mem.1 meanOrder_r_1_2_0 4 (by simp)
  have k_1_3 : ∀ z ∈ [0, 1, 2, 3, 4], meanOrder_run 1 3 z = true := fun z hz => by
      simp only [List.mem_cons, List.not_mem_nil, or_false] at hz
      rcases hz with rfl | rfl | rfl | rfl | rfl
      · exact allL_mem.1 meanOrder_r_1_3_0 0 (by simp)
      · exact allL_mem.1 meanOrder_r_1_3_0 1 (by simp)
      · exact allL_mem.1 meanOrder_r_1_3_0 2 (by simp)
      · exact allL_mem.1 meanOrder_r_1_3_0 3 (by simp)
      · exact allL_mem.1 meanOrder_r_1_3_0 4 (by simp)
  have k_2_0 : ∀ z ∈ [0, 1, 2, 3, 4], meanOrder_run 2 0 z = true := fun z hz => by
      simp only [List.mem_cons, List.not_mem_nil, or_false] at hz
      rcases hz with rfl | rfl | rfl | rfl | rfl
      · exact allL_mem.1 meanOrder_r_2_0_0 0 (by simp)
      · exact allL_mem.1 meanOrder_r_2_0_0 1 (by simp)
      · exact allL_mem.1 meanOrder_r_2_0_0 2 (by simp)
      · exact allL_mem.1 meanOrder_r_2_0_0 3 (by simp)
      · exact allL_mem.1 meanOrder_r_2_0_0 4 (by simp)
  have k_2_1 : ∀ z ∈ [0, 1, 2, 3, 4], meanOrder_run 2 1 z = true := fun z hz => by
      simp only [List.mem_cons, List.not_mem_nil, or_false] at hz
      rcases hz with rfl | rfl | rfl | rfl | rfl
      · exact allL_mem.1 meanOrder_r_2_1_0 0 (by simp)
      · exact allL_mem.1 meanOrder_r_2_1_0 1 (by simp)
      · exact allL_mem.1 meanOrder_r_2_1_0 2 (by simp)
      · exact allL_mem.1 meanOrder_r_2_1_0 3 (by simp)
      · exact allL_mem.1 meanOrder_r_2_1_0 4 (by simp)
  have k_2_2 : ∀ z ∈ [0, 1, 2, 3, 4], meanOrder_run 2 2 z = true := fun z hz => by
      simp only [List.mem_cons, List.not_mem_nil, or_false] at hz
      rcases hz with rfl | rfl | rfl | rfl | rfl
      · exact allL_mem.1 meanOrder_r_2_2_0 0 (by simp)
      · exact allL_mem.1 meanOrder_r_2_2_0 1 (by simp)
      · exact allL_mem.1 meanOrder_r_2_2_0 2 (by simp)
      · exact allL_mem.1 meanOrder_r_2_2_0 3 (by simp)
      · exact allL_mem.1 meanOrder_r_2_2_0 4 (by simp)
  have k_2_3 : ∀ z ∈ [0, 1, 2, 3, 4], meanOrder_run 2 3 z = true := fun z hz => by
      simp only [List.mem_cons, List.not_mem_nil, or_false] at hz
      rcases hz with rfl | rfl | rfl | rfl | rfl
      · exact allL_mem.1 meanOrder_r_2_3_0 0 (by simp)
      · exact allL_mem.1 meanOrder_r_2_3_0 1 (by simp)
      · exact allL_mem.1 meanOrder_r_2_3_0 2 (by simp)
      · exact allL_mem.1 meanOrder_r_2_3_0 3 (by simp)
      · exact allL_mem.1 meanOrder_r_2_3_0 4 (by simp)
  have k_3_0 : ∀ z ∈ [0, 1, 2, 3, 4], meanOrder_run 3 0 z = true := fun z hz => by
      simp only [List.mem_cons, List.not_mem_nil, or_false] at hz
      rcases hz with rfl | rfl | rfl | rfl | rfl
      · exact allL_mem.1 meanOrder_r_3_0_0 0 (by simp)
      · exact allL_mem.1 meanOrder_r_3_0_0 1 (by simp)
      · exact allL_mem.1 meanOrder_r_3_0_0 2 (by simp)
      · exact allL_mem.1 meanOrder_r_3_0_0 3 (by simp)
      · exact allL_mem.1 meanOrder_r_3_0_0 4 (by simp)
  have k_3_1 : ∀ z ∈ [0, 1, 2, 3, 4], meanOrder_run 3 1 z = true := fun z hz => by
      simp only [List.mem_cons, List.not_mem_nil, or_false] at hz
      rcases hz with rfl | rfl | rfl | rfl | rfl
      · exact allL_mem.1 meanOrder_r_3_1_0 0 (by simp)
      · exact allL_mem.1 meanOrder_r_3_1_0 1 (by simp)
      · exact allL_mem.1 meanOrder_r_3_1_0 2 (by simp)
      · exact allL_mem.1 meanOrder_r_3_1_0 3 (by simp)
      · exact allL_mem.1 meanOrder_r_3_1_0 4 (by simp)
  have k_3_2 : ∀ z ∈ [0, 1, 2, 3, 4], meanOrder_run 3 2 z = true := fun z hz => by
      simp only [List.mem_cons, List.not_mem_nil, or_false] at hz
      rcases hz with rfl | rfl | rfl | rfl | rfl
      · exact allL_mem.1 meanOrder_r_3_2_0 0 (by simp)
      · exact allL_mem.1 meanOrder_r_3_2_0 1 (by simp)
      · exact allL_mem.1 meanOrder_r_3_2_0 2 (by simp)
      · exact allL_mem.1 meanOrder_r_3_2_0 3 (by simp)
      · exact allL_mem.1 meanOrder_r_3_2_0 4 (by simp)
  have k_3_3 : ∀ z ∈ [0, 1, 2, 3, 4], meanOrder_run 3 3 z = true := fun z hz => by
      simp only [List.mem_cons, List.not_mem_nil, or_false] at hz
      rcases hz with rfl | rfl | rfl | rfl | rfl
      · exact allL_mem.1 meanOrder_r_3_3_0 0 (by simp)
      · exact allL_mem.1 meanOrder_r_3_3_0 1 (by simp)
      · exact allL_mem.1 meanOrder_r_3_3_0 2 (by simp)
      · exact allL_mem.1 meanOrder_r_3_3_0 3 (by simp)
      · exact allL_mem.1 meanOrder_r_3_3_0 4 (by simp)
  simp only [List.mem_cons, List.not_mem_nil, or_false] at m0 m1
  rcases m0 with rfl | rfl | rfl | rfl
  · skip
    rcases m1 with rfl | rfl | rfl | rfl
    · skip
      exact k_0_0 r2 m2
    · skip
      exact k_0_1 r2 m2
    · skip
      exact k_0_2 r2 m2
    · skip
      exact k_0_3 r2 m2
  · skip
    rcases m1 with rfl | rfl | rfl | rfl
    · skip
      exact k_1_0 r2 m2
    · skip
      exact k_1_1 r2 m2
    · skip
      exact k_1_2 r2 m2
    · skip
      exact k_1_3 r2 m2
  · skip
    rcases m1 with rfl | rfl | rfl | rfl
    · skip
      exact k_2_0 r2 m2
    · skip
      exact k_2_1 r2 m2
    · skip
      exact k_2_2 r2 m2
    · skip
      exact k_2_3 r2 m2
  · skip
    rcases m1 with rfl | rfl | rfl | rfl
    · skip
      exact k_3_0 r2 m2
    · skip
      exact k_3_1 r2 m2
    · skip
      exact k_3_2 r2 m2
    · skip
      exact k_3_3 r2 m2
theorem meanOrder_any (x0 : Int) (x1 : Int) (x2 : Int) (q0 : (Lit.int .i64 x0).wf = true) (q1 : (Lit.int .i64 x1).wf = true) (q2 : (Lit.int .i64 x2).wf = true) (W : World) (ht : ∀ sy : Nat → Value, ∃ size ea ez, Starts sy (gsFrom 244 meanOrder_tabs 1024 meanOrder_errs) (esFrom 1024 meanOrder_errs) W size ea ez) :
    Calls Tryz.prog 5 #[.int .i64 x0, .int .i64 x1, .int .i64 x2] W fun e w' => e = .returned (.bool true) ∧ Go.RowKit.Below W.heap.size W w' := by
  obtain ⟨size, ea, ez, hs⟩ := ht (fun j => .int .i64 ((symX (fun j => if j = 2 then x2 else if j = 0 then x0 else if j = 1 then x1 else 0) (fun i => if i = 0 then x0 % 1000 else if i = 1 then x1 % 1000 else 0) : Nat → Int) j))
  have b2 := Int.emod_nonneg x2 (show (5 : Int) ≠ 0 by decide)
  have c2 := Int.emod_lt_of_pos x2 (show (0 : Int) < 5 by decide)
  have b0 := Int.emod_nonneg x0 (show (1000 : Int) ≠ 0 by decide)
  have c0 := Int.emod_lt_of_pos x0 (show (0 : Int) < 1000 by decide)
  obtain ⟨d0, e0, f0⟩ := cls_ok b0 c0 (by decide)
  have g0 : clsR (x0 % 1000) < 4 := by
    unfold clsR
    repeat' split
    all_goals omega
  have j0 := (show ∀ r ∈ List.range 4, 1000 ≤ meanOrder_J0 r ∧ (meanOrder_J0 r - 1000) % 8 = 0 ∧ symLen (meanOrder_J0 r) = clsLen r ∧ symLo (meanOrder_J0 r) = clsLo r ∧ symHi (meanOrder_J0 r) = clsHi 1000 r ∧ (symNz (meanOrder_J0 r) = 1 → r ≠ 0) by decide +kernel) (clsR (x0 % 1000)) (List.mem_range.2 g0)
  have b1 := Int.emod_nonneg x1 (show (1000 : Int) ≠ 0 by decide)
  have c1 := Int.emod_lt_of_pos x1 (show (0 : Int) < 1000 by decide)
  obtain ⟨d1, e1, f1⟩ := cls_ok b1 c1 (by decide)
  have g1 : clsR (x1 % 1000) < 4 := by
    unfold clsR
    repeat' split
    all_goals omega
  have j1 := (show ∀ r ∈ List.range 4, 1000 ≤ meanOrder_J1 r ∧ (meanOrder_J1 r - 1000) % 8 = 1 ∧ symLen (meanOrder_J1 r) = clsLen r ∧ symLo (meanOrder_J1 r) = clsLo r ∧ symHi (meanOrder_J1 r) = clsHi 1000 r ∧ (symNz (meanOrder_J1 r) = 1 → r ≠ 0) by decide +kernel) (clsR (x1 % 1000)) (List.mem_range.2 g1)
  have hrun := meanOrder_all (clsR (x0 % 1000)) (clsR (x1 % 1000)) (x2 % 5).toNat g0 g1 (by omega)
  unfold meanOrder_run at hrun
  obtain ⟨s', hrun⟩ := isT_some hrun
  have hbase : OvOk (fun j => .int .i64 ((symX (fun j => if j = 2 then x2 else if j = 0 then x0 else if j = 1 then x1 else 0) (fun i => if i = 0 then x0 % 1000 else if i = 1 then x1 % 1000 else 0) : Nat → Int) j)) Tryz.prog (meanOrder_base (clsR (x0 % 1000)) (clsR (x1 % 1000)) (x2 % 5).toNat) := by
    refine (hStr_ok (hCopy_ok (hFmt_ok (hNum2_ok (xs := symX (fun j => if j = 2 then x2 else if j = 0 then x0 else if j = 1 then x1 else 0) (fun i => if i = 0 then x0 % 1000 else if i = 1 then x1 % 1000 else 0)) (fun x m h1 h2 w => number_any x m h1 h2 w) ⟨_, Tryz.func9, by kernel_rfl, by kernel_rfl⟩ (fun j _ _ _ => rfl) ?_ ?_) (fun n w h0 h1 ht => fmt_any n w h0 h1 ht) ⟨_, Tryz.func61, by kernel_rfl, by kernel_rfl⟩) bld_ok) bld_ok)
    · intro j m r h
      have hm := rests_mem h
      simp only [List.mem_cons, List.not_mem_nil, or_false, Prod.mk.injEq] at hm
      rcases hm with ⟨rfl, rfl, rfl⟩
      · show x2 % 5 = (((x2 % 5).toNat : Nat) : Int)
        omega
    · intro j m j' h
      have hm := rests_mem h
      simp only [List.mem_cons, List.not_mem_nil, or_false, Prod.mk.injEq] at hm
      rcases hm with ⟨rfl, rfl, rfl⟩ | ⟨rfl, rfl, rfl⟩
      · obtain ⟨k1, k2, k3, k4, k5, k6⟩ := j0
        refine ⟨rfl, ?_, ?_, fun h1 h2 => absurd k1 (by omega), fun _ => ⟨by rw [k4]; exact d0, by rw [k5]; exact e0, by rw [k3]; exact f0, fun h => clsR_nz (k6 h)⟩⟩
        · show Value.int .i64 (symX _ _ _) = _
          rw [symX_at k1 k2]
          rfl
        · show IntKind.i64.wrap (x0 % 1000) = x0 % 1000
          unfold IntKind.wrap
          simp [IntKind.bits, IntKind.signed]
          omega
      · obtain ⟨k1, k2, k3, k4, k5, k6⟩ := j1
        refine ⟨rfl, ?_, ?_, fun h1 h2 => absurd k1 (by omega), fun _ => ⟨by rw [k4]; exact d1, by rw [k5]; exact e1, by rw [k3]; exact f1, fun h => clsR_nz (k6 h)⟩⟩
        · show Value.int .i64 (symX _ _ _) = _
          rw [symX_at k1 k2]
          rfl
        · show IntKind.i64.wrap (x1 % 1000) = x1 % 1000
          unfold IntKind.wrap
          simp [IntKind.bits, IntKind.signed]
          omega
  refine closedF hs hbase hrun ?_
  · exact ⟨_, _, rfl, ⟨rfl, _, rfl, meanOrder_wrap q0, fun hge => absurd hge (by decide), fun hge => absurd hge (by decide)⟩, ⟨_, _, rfl, ⟨rfl, _, rfl, meanOrder_wrap q1, fun hge => absurd hge (by decide), fun hge => absurd hge (by decide)⟩, ⟨_, _, rfl, ⟨rfl, _, rfl, meanOrder_wrap q2, fun hge => absurd hge (by decide), fun hge => absurd hge (by decide)⟩, rfl⟩⟩⟩
end Go.Proofs.YtogemcnajcaeoaaGreatDoor
