/- MeanLazy: called with any arguments, the law answers true, and what lay in memory stands. Conditions: the listed variables read as start-up lays them. -/
import Derived.Test.YtogemcnajcaeoaaGreatDoorMeanLazyR0
import Derived.Test.YtogemcnajcaeoaaGreatDoorMeanLazyR1
import Derived.Test.YtogemcnajcaeoaaGreatDoorMeanLazyR2
import Derived.Test.YtogemcnajcaeoaaGreatDoorMeanLazyR3
import Derived.Test.YtogemcnajcaeoaaGreatDoorMeanLazyR4
import Derived.Test.YtogemcnajcaeoaaGreatDoorMeanLazyR5
import Derived.Test.YtogemcnajcaeoaaGreatDoorNumber
import Derived.Test.YtogemcnajcaeoaaGreatDoorBld
import Derived.Test.YtogemcnajcaeoaaGreatDoorFmt
namespace Go.Proofs.YtogemcnajcaeoaaGreatDoor
open Go.Ex
theorem meanLazy_wrap {n : Int} (h : (Lit.int .i64 n).wf = true) : IntKind.i64.wrap n = n := by
  simp only [Lit.wf, Bool.and_eq_true, decide_eq_true_eq] at h
  obtain ⟨h1, h2⟩ := h
  have e1 : IntKind.i64.min = -9223372036854775808 := by decide
  have e2 : IntKind.i64.max = 9223372036854775807 := by decide
  rw [e1] at h1
  rw [e2] at h2
  have e3 : IntKind.i64.wrap n = if n % 18446744073709551616 ≥ 9223372036854775808 then n % 18446744073709551616 - 18446744073709551616 else n % 18446744073709551616 := by
    unfold IntKind.wrap
    simp [IntKind.bits, IntKind.signed]
  rw [e3]
  split <;> omega
theorem meanLazy_all : ∀ (r0 : Nat) (r1 : Nat), r0 < 8 → r1 < 4 → meanLazy_run r0 r1 = true := by
  intro r0 r1 h0 h1
  have m0 : r0 ∈ [0, 1, 2, 3, 4, 5, 6, 7] := by simp; omega
  have m1 : r1 ∈ [0, 1, 2, 3] := by simp; omega
  have k_0 : ∀ z ∈ [0, 1, 2, 3], meanLazy_run 0 z = true := fun z hz => by
      simp only [List.mem_cons, List.not_mem_nil, or_false] at hz
      rcases hz with rfl | rfl | rfl | rfl
      · exact allL_mem.1 meanLazy_r_0_0 0 (by simp)
      · exact allL_mem.1 meanLazy_r_0_0 1 (by simp)
      · exact allL_mem.1 meanLazy_r_0_2 2 (by simp)
      · exact allL_mem.1 meanLazy_r_0_2 3 (by simp)
  have k_1 : ∀ z ∈ [0, 1, 2, 3], meanLazy_run 1 z = true := fun z hz => by
      simp only [List.mem_cons, List.not_mem_nil, or_false] at hz
      rcases hz with rfl | rfl | rfl | rfl
      · exact allL_mem.1 meanLazy_r_1_0 0 (by simp)
      · exact allL_mem.1 meanLazy_r_1_0 1 (by simp)
      · exact allL_mem.1 meanLazy_r_1_2 2 (by simp)
      · exact allL_mem.1 meanLazy_r_1_2 3 (by simp)
  have k_2 : ∀ z ∈ [0, 1, 2, 3], meanLazy_run 2 z = true := fun z hz => by
      simp only [List.mem_cons, List.not_mem_nil, or_false] at hz
      rcases hz with rfl | rfl | rfl | rfl
      · exact allL_mem.1 meanLazy_r_2_0 0 (by simp)
      · exact allL_mem.1 meanLazy_r_2_0 1 (by simp)
      · exact allL_mem.1 meanLazy_r_2_2 2 (by simp)
      · exact allL_mem.1 meanLazy_r_2_2 3 (by simp)
  have k_3 : ∀ z ∈ [0, 1, 2, 3], meanLazy_run 3 z = true := fun z hz => by
      simp only [List.mem_cons, List.not_mem_nil, or_false] at hz
      rcases hz with rfl | rfl | rfl | rfl
      · exact allL_mem.1 meanLazy_r_3_0 0 (by simp)
      · exact allL_mem.1 meanLazy_r_3_0 1 (by simp)
      · exact allL_mem.1 meanLazy_r_3_2 2 (by simp)
      · exact allL_mem.1 meanLazy_r_3_2 3 (by simp)
  have k_4 : ∀ z ∈ [0, 1, 2, 3], meanLazy_run 4 z = true := fun z hz => by
      simp only [List.mem_cons, List.not_mem_nil, or_false] at hz
      rcases hz with rfl | rfl | rfl | rfl
      · exact allL_mem.1 meanLazy_r_4_0 0 (by simp)
      · exact allL_mem.1 meanLazy_r_4_0 1 (by simp)
      · exact allL_mem.1 meanLazy_r_4_2 2 (by simp)
      · exact allL_mem.1 meanLazy_r_4_2 3 (by simp)
  have k_5 : ∀ z ∈ [0, 1, 2, 3], meanLazy_run 5 z = true := fun z hz => by
      simp only [List.mem_cons, List.not_mem_nil, or_false] at hz
      rcases hz with rfl | rfl | rfl | rfl
      · exact allL_mem.1 meanLazy_r_5_0 0 (by simp)
      · exact allL_mem.1 meanLazy_r_5_0 1 (by simp)
      · exact allL_mem.1 meanLazy_r_5_2 2 (by simp)
      · exact allL_mem.1 meanLazy_r_5_2 3 (by simp)
  have k_6 : ∀ z ∈ [0, 1, 2, 3], meanLazy_run 6 z = true := fun z hz => by
      simp only [List.mem_cons, List.not_mem_nil, or_false] at hz
      rcases hz with rfl | rfl | rfl | rfl
      · exact allL_mem.1 meanLazy_r_6_0 0 (by simp)
      · exact allL_mem.1 meanLazy_r_6_0 1 (by simp)
      · exact allL_mem.1 meanLazy_r_6_2 2 (by simp)
      · exact allL_mem.1 meanLazy_r_6_2 3 (by simp)
  have k_7 : ∀ z ∈ [0, 1, 2, 3], meanLazy_run 7 z = true := fun z hz => by
      simp only [List.mem_cons, List.not_mem_nil, or_false] at hz
      rcases hz with rfl | rfl | rfl | rfl
      · exact allL_mem.1 meanLazy_r_7_0 0 (by simp)
      · exact allL_mem.1 meanLazy_r_7_0 1 (by simp)
      · exact allL_mem.1 meanLazy_r_7_2 2 (by simp)
      · exact allL_mem.1 meanLazy_r_7_2 3 (by simp)
  simp only [List.mem_cons, List.not_mem_nil, or_false] at m0
  rcases m0 with rfl | rfl | rfl | rfl | rfl | rfl | rfl | rfl
  · skip
    exact k_0 r1 m1
  · skip
    exact k_1 r1 m1
  · skip
    exact k_2 r1 m1
  · skip
    exact k_3 r1 m1
  · skip
    exact k_4 r1 m1
  · skip
    exact k_5 r1 m1
  · skip
    exact k_6 r1 m1
  · skip
    exact k_7 r1 m1
theorem meanLazy_any (x0 : Int) (x1 : Int) (q0 : (Lit.int .i64 x0).wf = true) (q1 : (Lit.int .i64 x1).wf = true) (W : World) (ht : ∀ sy : Nat → Value, ∃ size ea ez, Starts sy (gsFrom 244 meanLazy_tabs 1024 meanLazy_errs) (esFrom 1024 meanLazy_errs) W size ea ez) :
    Calls Tryz.prog 3 #[.int .i64 x0, .int .i64 x1] W fun e w' => e = .returned (.bool true) ∧ Go.RowKit.Below W.heap.size W w' := by
  obtain ⟨size, ea, ez, hs⟩ := ht (fun j => .int .i64 ((symX (fun j => if j = 0 then x0 else if j = 1 then x1 else 0) (fun i => if i = 1 then x1 % 1000 else 0) : Nat → Int) j))
  have b0 := Int.emod_nonneg x0 (show (8 : Int) ≠ 0 by decide)
  have c0 := Int.emod_lt_of_pos x0 (show (0 : Int) < 8 by decide)
  have b1 := Int.emod_nonneg x1 (show (1000 : Int) ≠ 0 by decide)
  have c1 := Int.emod_lt_of_pos x1 (show (0 : Int) < 1000 by decide)
  obtain ⟨d1, e1, f1⟩ := cls_ok b1 c1 (by decide)
  have g1 : clsR (x1 % 1000) < 4 := by
    unfold clsR
    repeat' split
    all_goals omega
  have j1 := (show ∀ r ∈ List.range 4, 1000 ≤ meanLazy_J1 r ∧ (meanLazy_J1 r - 1000) % 8 = 1 ∧ symLen (meanLazy_J1 r) = clsLen r ∧ symLo (meanLazy_J1 r) = clsLo r ∧ symHi (meanLazy_J1 r) = clsHi 1000 r ∧ (symNz (meanLazy_J1 r) = 1 → r ≠ 0) by decide +kernel) (clsR (x1 % 1000)) (List.mem_range.2 g1)
  have hrun := meanLazy_all (x0 % 8).toNat (clsR (x1 % 1000)) (by omega) g1
  unfold meanLazy_run at hrun
  obtain ⟨s', hrun⟩ := isT_some hrun
  have hbase : OvOk (fun j => .int .i64 ((symX (fun j => if j = 0 then x0 else if j = 1 then x1 else 0) (fun i => if i = 1 then x1 % 1000 else 0) : Nat → Int) j)) Tryz.prog (meanLazy_base (x0 % 8).toNat (clsR (x1 % 1000))) := by
    refine (hStr_ok (hCopy_ok (hFmt_ok (hNum2_ok (xs := symX (fun j => if j = 0 then x0 else if j = 1 then x1 else 0) (fun i => if i = 1 then x1 % 1000 else 0)) (fun x m h1 h2 w => number_any x m h1 h2 w) ⟨_, Tryz.func9, by kernel_rfl, by kernel_rfl⟩ (fun j _ _ _ => rfl) ?_ ?_) (fun n w h0 h1 ht => fmt_any n w h0 h1 ht) ⟨_, Tryz.func61, by kernel_rfl, by kernel_rfl⟩) bld_ok) bld_ok)
    · intro j m r h
      have hm := rests_mem h
      simp only [List.mem_cons, List.not_mem_nil, or_false, Prod.mk.injEq] at hm
      rcases hm with ⟨rfl, rfl, rfl⟩
      · show x0 % 8 = (((x0 % 8).toNat : Nat) : Int)
        omega
    · intro j m j' h
      have hm := rests_mem h
      simp only [List.mem_cons, List.not_mem_nil, or_false, Prod.mk.injEq] at hm
      rcases hm with ⟨rfl, rfl, rfl⟩
      · obtain ⟨k1, k2, k3, k4, k5, k6⟩ := j1
        refine ⟨rfl, ?_, ?_, fun h1 h2 => absurd k1 (by omega), fun _ => ⟨by rw [k4]; exact d1, by rw [k5]; exact e1, by rw [k3]; exact f1, fun h => clsR_nz (k6 h)⟩⟩
        · show Value.int .i64 (symX _ _ _) = _
          rw [symX_at k1 k2]
          rfl
        · show IntKind.i64.wrap (x1 % 1000) = x1 % 1000
          unfold IntKind.wrap
          simp [IntKind.bits, IntKind.signed]
          omega
  refine closedF hs hbase hrun ?_
  · exact ⟨_, _, rfl, ⟨rfl, _, rfl, meanLazy_wrap q0, fun hge => absurd hge (by decide), fun hge => absurd hge (by decide)⟩, ⟨_, _, rfl, ⟨rfl, _, rfl, meanLazy_wrap q1, fun hge => absurd hge (by decide), fun hge => absurd hge (by decide)⟩, rfl⟩⟩
end Go.Proofs.YtogemcnajcaeoaaGreatDoor
