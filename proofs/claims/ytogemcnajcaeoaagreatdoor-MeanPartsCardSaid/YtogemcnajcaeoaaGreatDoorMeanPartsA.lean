/- MeanParts: called with any arguments, the law answers true, and what lay in memory stands. Conditions: the listed variables read as start-up lays them. -/
import Derived.Test.YtogemcnajcaeoaaGreatDoorMeanPartsR0
import Derived.Test.YtogemcnajcaeoaaGreatDoorMeanPartsR1
import Derived.Test.YtogemcnajcaeoaaGreatDoorMeanPartsR2
import Derived.Test.YtogemcnajcaeoaaGreatDoorMeanPartsR3
import Derived.Test.YtogemcnajcaeoaaGreatDoorMeanPartsR4
import Derived.Test.YtogemcnajcaeoaaGreatDoorNumber
import Derived.Test.YtogemcnajcaeoaaGreatDoorBld
namespace Go.Proofs.YtogemcnajcaeoaaGreatDoor
open Go.Ex
theorem meanParts_wrap {n : Int} (h : (Lit.int .i64 n).wf = true) : IntKind.i64.wrap n = n := by
  simp only [Lit.wf, Bool.and_eq_true, decide_eq_true_eq] at h
  obtain ⟨h1, h2⟩ := h
  have e1 : IntKind.i64.min = -9223372036854775808 := by decide
  have e2 : IntKind.i64.max = 9223372036854775807 := by decide
  rw [e1] at h1
  rw [e2] at h2
  have e3 : IntKind.i64.wrap n = if n % 18446744073709551616 ≥ 9223372036854775808 then n % 18446744073709551616 - 18446744073709551616 else n % 18446744073709551616 := by
    unfold IntKind.wrap
    simp [IntKind.bits, IntKind.signed]
  rw [e3]
  split <;> omega
theorem meanParts_all : ∀ (r0 : Nat) (r1 : Nat) (r2 : Bool), r0 < 5 → r1 < meanParts_dm1 r0 → meanParts_run r0 r1 r2 = true := by
  intro r0 r1 r2 h0 h1
  have m0 : r0 ∈ [0, 1, 2, 3, 4] := by simp; omega
  have m2 : r2 ∈ [false, true] := by cases r2 <;> simp
  have k_0_0 : ∀ z ∈ [false, true], meanParts_run 0 0 z = true := fun z hz => by
      simp only [List.mem_cons, List.not_mem_nil, or_false] at hz
      rcases hz with rfl | rfl
      · exact allL_mem.1 meanParts_r_0_0_false false (by simp)
      · exact allL_mem.1 meanParts_r_0_0_false true (by simp)
  have k_1_0 : ∀ z ∈ [false, true], meanParts_run 1 0 z = true := fun z hz => by
      simp only [List.mem_cons, List.not_mem_nil, or_false] at hz
      rcases hz with rfl | rfl
      · exact allL_mem.1 meanParts_r_1_0_false false (by simp)
      · exact allL_mem.1 meanParts_r_1_0_false true (by simp)
  have k_1_1 : ∀ z ∈ [false, true], meanParts_run 1 1 z = true := fun z hz => by
      simp only [List.mem_cons, List.not_mem_nil, or_false] at hz
      rcases hz with rfl | rfl
      · exact allL_mem.1 meanParts_r_1_1_false false (by simp)
      · exact allL_mem.1 meanParts_r_1_1_false true (by simp)
  have k_2_0 : ∀ z ∈ [false, true], meanParts_run 2 0 z = true := fun z hz => by
      simp only [List.mem_cons, List.not_mem_nil, or_false] at hz
      rcases hz with rfl | rfl
      · exact allL_mem.1 meanParts_r_2_0_false false (by simp)
      · exact allL_mem.1 meanParts_r_2_0_false true (by simp)
  have k_2_1 : ∀ z ∈ [false, true], meanParts_run 2 1 z = true := fun z hz => by
      simp only [List.mem_cons, List.not_mem_nil, or_false] at hz
      rcases hz with rfl | rfl
      · exact allL_mem.1 meanParts_r_2_1_false false (by simp)
      · exact allL_mem.1 meanParts_r_2_1_false true (by simp)
  have k_2_2 : ∀ z ∈ [false, true], meanParts_run 2 2 z = true := fun z hz => by
      simp only [List.mem_cons, List.not_mem_nil, or_false] at hz
      rcases hz with rfl | rfl
      · exact allL_mem.1 meanParts_r_2_2_false false (by simp)
      · exact allL_mem.1 meanParts_r_2_2_false true (by simp)
  have k_3_0 : ∀ z ∈ [false, true], meanParts_run 3 0 z = true := fun z hz => by
      simp only [List.mem_cons, List.not_mem_nil, or_false] at hz
      rcases hz with rfl | rfl
      · exact allL_mem.1 meanParts_r_3_0_false false (by simp)
      · exact allL_mem.1 meanParts_r_3_0_false true (by simp)
  have k_3_1 : ∀ z ∈ [false, true], meanParts_run 3 1 z = true := fun z hz => by
      simp only [List.mem_cons, List.not_mem_nil, or_false] at hz
      rcases hz with rfl | rfl
      · exact allL_mem.1 meanParts_r_3_1_false false (by simp)
      · exact allL_mem.1 meanParts_r_3_1_false true (by simp)
  have k_3_2 : ∀ z ∈ [false, true], meanParts_run 3 2 z = true := fun z hz => by
      simp only [List.mem_cons, List.not_mem_nil, or_false] at hz
      rcases hz with rfl | rfl
      · exact allL_mem.1 meanParts_r_3_2_false false (by simp)
      · exact allL_mem.1 meanParts_r_3_2_false true (by simp)
  have k_3_3 : ∀ z ∈ [false, true], meanParts_run 3 3 z = true := fun z hz => by
      simp only [List.mem_cons, List.not_mem_nil, or_false] at hz
      rcases hz with rfl | rfl
      · exact allL_mem.1 meanParts_r_3_3_false false (by simp)
      · exact allL_mem.1 meanParts_r_3_3_false true (by simp)
  have k_4_0 : ∀ z ∈ [false, true], meanParts_run 4 0 z = true := fun z hz => by
      simp only [List.mem_cons, List.not_mem_nil, or_false] at hz
      rcases hz with rfl | rfl
      · exact allL_mem.1 meanParts_r_4_0_false false (by simp)
      · exact allL_mem.1 meanParts_r_4_0_false true (by simp)
  have k_4_1 : ∀ z ∈ [false, true], meanParts_run 4 1 z = true := fun z hz => by
      simp only [List.mem_cons, List.not_mem_nil, or_false] at hz
      rcases hz with rfl | rfl
      · exact allL_mem.1 meanParts_r_4_1_false false (by simp)
      · exact allL_mem.1 meanParts_r_4_1_false true (by simp)
  have k_4_2 : ∀ z ∈ [false, true], meanParts_run 4 2 z = true := fun z hz => by
      simp only [List.mem_cons, List.not_mem_nil, or_false] at hz
      rcases hz with rfl | rfl
      · exact allL_mem.1 meanParts_r_4_2_false false (by simp)
      · exact allL_mem.1 meanParts_r_4_2_false true (by simp)
  have k_4_3 : ∀ z ∈ [false, true], meanParts_run 4 3 z = true := fun z hz => by
      simp only [List.mem_cons, List.not_mem_nil, or_false] at hz
      rcases hz with rfl | rfl
      · exact allL_mem.1 meanParts_r_4_3_false false (by simp)
      · exact allL_mem.1 meanParts_r_4_3_false true (by simp)
  have k_4_4 : ∀ z ∈ [false, true], meanParts_run 4 4 z = true := fun z hz => by
      simp only [List.mem_cons, List.not_mem_nil, or_false] at hz
      rcases hz with rfl | rfl
      · exact allL_mem.1 meanParts_r_4_4_false false (by simp)
      · exact allL_mem.1 meanParts_r_4_4_false true (by simp)
  simp only [List.mem_cons, List.not_mem_nil, or_false] at m0
  rcases m0 with rfl | rfl | rfl | rfl | rfl
  · skip
    have h' : r1 < 1 := h1
    have m1 : r1 = 0 := by omega
    rcases m1 with rfl
    · skip
      exact k_0_0 r2 m2
  · skip
    have h' : r1 < 2 := h1
    have m1 : r1 = 0 ∨ r1 = 1 := by omega
    rcases m1 with rfl | rfl
    · skip
      exact k_1_0 r2 m2
    · skip
      exact k_1_1 r2 m2
  · skip
    have h' : r1 < 3 := h1
    have m1 : r1 = 0 ∨ r1 = 1 ∨ r1 = 2 := by omega
    rcases m1 with rfl | rfl | rfl
    · skip
      exact k_2_0 r2 m2
    · skip
      exact k_2_1 r2 m2
    · skip
      exact k_2_2 r2 m2
  · skip
    have h' : r1 < 4 := h1
    have m1 : r1 = 0 ∨ r1 = 1 ∨ r1 = 2 ∨ r1 = 3 := by omega
    rcases m1 with rfl | rfl | rfl | rfl
    · skip
      exact k_3_0 r2 m2
    · skip
      exact k_3_1 r2 m2
    · skip
      exact k_3_2 r2 m2
    · skip
      exact k_3_3 r2 m2
  · skip
    have h' : r1 < 5 := h1
    have m1 : r1 = 0 ∨ r1 = 1 ∨ r1 = 2 ∨ r1 = 3 ∨ r1 = 4 := by omega
    rcases m1 with rfl | rfl | rfl | rfl | rfl
    · skip
      exact k_4_0 r2 m2
    · skip
      exact k_4_1 r2 m2
    · skip
      exact k_4_2 r2 m2
    · skip
      exact k_4_3 r2 m2
    · skip
      exact k_4_4 r2 m2
theorem meanParts_any (x0 : Int) (x1 : Int) (x2 : Bool) (q0 : (Lit.int .i64 x0).wf = true) (q1 : (Lit.int .i64 x1).wf = true) (W : World) (ht : ∀ sy : Nat → Value, ∃ size ea ez, Starts sy (gsFrom 244 meanParts_tabs 1024 meanParts_errs) (esFrom 1024 meanParts_errs) W size ea ez) :
    Calls Tryz.prog 6 #[.int .i64 x0, .int .i64 x1, .bool x2] W fun e w' => e = .returned (.bool true) ∧ Go.RowKit.Below W.heap.size W w' := by
  obtain ⟨size, ea, ez, hs⟩ := ht (fun j => .int .i64 ((fun j => if j = 0 then x0 else if j = 1 then x1 else 0 : Nat → Int) j))
  have b0 := Int.emod_nonneg x0 (show (5 : Int) ≠ 0 by decide)
  have c0 := Int.emod_lt_of_pos x0 (show (0 : Int) < 5 by decide)
  have hdm1 : ∀ r : Nat, r < 5 → 0 < meanParts_dm1 r := by
    intro r hr
    have hr' : r ∈ List.range 5 := List.mem_range.2 hr
    exact (show ∀ r ∈ List.range 5, 0 < meanParts_dm1 r by decide +kernel) r hr'
  have hd1 := hdm1 (x0 % 5).toNat (by omega)
  generalize hD1 : meanParts_dm1 (x0 % 5).toNat = D1 at hd1
  have b1 := Int.emod_nonneg x1 (show (D1 : Int) ≠ 0 by omega)
  have c1 := Int.emod_lt_of_pos x1 (show (0 : Int) < D1 by omega)
  have hrun := meanParts_all (x0 % 5).toNat (x1 % (D1 : Int)).toNat x2 (by omega) (by rw [hD1]; omega)
  unfold meanParts_run at hrun
  obtain ⟨s', hrun⟩ := isT_some hrun
  have hbase : OvOk (fun j => .int .i64 ((fun j => if j = 0 then x0 else if j = 1 then x1 else 0 : Nat → Int) j)) Tryz.prog (meanParts_base (x0 % 5).toNat (x1 % (D1 : Int)).toNat x2) := by
    refine (hStr_ok (hCopy_ok (hNum_ok (xs := fun j => if j = 0 then x0 else if j = 1 then x1 else 0) (fun x m h1 h2 w => number_any x m h1 h2 w) ⟨_, Tryz.func9, by kernel_rfl, by kernel_rfl⟩ (fun j _ _ _ => rfl) (rests_ok ?_)) bld_ok) bld_ok)
    intro y hy
    simp only [List.mem_cons, List.not_mem_nil, or_false] at hy
    rcases hy with rfl | rfl
    · simp; omega
    · show x1 % ((meanParts_dm1 (x0 % 5).toNat : Nat) : Int) = (((x1 % (D1 : Int)).toNat : Nat) : Int)
      rw [hD1]; omega
  refine closedF hs hbase hrun ?_
  · exact ⟨_, _, rfl, ⟨rfl, _, rfl, meanParts_wrap q0, fun hge => absurd hge (by decide), fun hge => absurd hge (by decide)⟩, ⟨_, _, rfl, ⟨rfl, _, rfl, meanParts_wrap q1, fun hge => absurd hge (by decide), fun hge => absurd hge (by decide)⟩, ⟨_, _, rfl, rfl, rfl⟩⟩⟩
end Go.Proofs.YtogemcnajcaeoaaGreatDoor
