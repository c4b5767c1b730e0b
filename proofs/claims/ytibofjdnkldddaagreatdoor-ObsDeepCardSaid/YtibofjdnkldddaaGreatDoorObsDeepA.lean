/- ObsDeep: called with any arguments, the law answers true, and what lay in memory stands. Conditions: the listed variables read as start-up lays them. -/
import Derived.Test.YtibofjdnkldddaaGreatDoorObsDeepR0
import Derived.Test.YtibofjdnkldddaaGreatDoorObsDeepR1
import Derived.Test.YtibofjdnkldddaaGreatDoorObsDeepR2
import Derived.Test.YtibofjdnkldddaaGreatDoorObsDeepR3
import Derived.Test.YtibofjdnkldddaaGreatDoorObsDeepR4
import Derived.Test.YtibofjdnkldddaaGreatDoorObsDeepR5
import Derived.Test.YtibofjdnkldddaaGreatDoorObsDeepR6
import Derived.Test.YtibofjdnkldddaaGreatDoorObsDeepR7
import Derived.Test.YtibofjdnkldddaaGreatDoorObsDeepR8
import Derived.Test.YtibofjdnkldddaaGreatDoorObsDeepR9
import Derived.Test.YtibofjdnkldddaaGreatDoorObsDeepR10
import Derived.Test.YtibofjdnkldddaaGreatDoorNumber
import Derived.Test.YtibofjdnkldddaaGreatDoorClone
import Derived.Test.YtibofjdnkldddaaGreatDoorBld
import Derived.Test.YtibofjdnkldddaaGreatDoorIdx
namespace Go.Proofs.YtibofjdnkldddaaGreatDoor
open Go.Ex
theorem obsDeep_wrap {n : Int} (h : (Lit.int .i64 n).wf = true) : IntKind.i64.wrap n = n := by
  simp only [Lit.wf, Bool.and_eq_true, decide_eq_true_eq] at h
  obtain ⟨h1, h2⟩ := h
  have e1 : IntKind.i64.min = -9223372036854775808 := by decide
  have e2 : IntKind.i64.max = 9223372036854775807 := by decide
  rw [e1] at h1
  rw [e2] at h2
  have e3 : IntKind.i64.wrap n = if n % 18446744073709551616 ≥ 9223372036854775808 then n % 18446744073709551616 - 18446744073709551616 else n % 18446744073709551616 := by
    unfold IntKind.wrap
    simp [IntKind.bits, IntKind.signed]
  rw [e3]
  split <;> omega
theorem obsDeep_all : ∀ (r0 : Nat) (r1 : Nat), r0 < 6 → r1 < obsDeep_dm r0 → obsDeep_run r0 r1 = true := by
  intro r0 r1 h0 h1
  have m0 : r0 ∈ [0, 1, 2, 3, 4, 5] := by simp; omega
  have k_0 : ∀ z ∈ [0, 1, 2, 3, 4, 5, 6, 7, 8, 9, 10, 11, 12, 13, 14, 15, 16, 17, 18, 19, 20, 21, 22, 23, 24, 25, 26, 27, 28, 29, 30, 31, 32, 33, 34, 35, 36, 37], obsDeep_run 0 z = true := fun z hz => by
      simp only [List.mem_cons, List.not_mem_nil, or_false] at hz
      rcases hz with rfl | rfl | rfl | rfl | rfl | rfl | rfl | rfl | rfl | rfl | rfl | rfl | rfl | rfl | rfl | rfl | rfl | rfl | rfl | rfl | rfl | rfl | rfl | rfl | rfl | rfl | rfl | rfl | rfl | rfl | rfl | rfl | rfl | rfl | rfl | rfl | rfl | rfl
      · exact allL_mem.1 obsDeep_r_0_0 0 (by simp)
      · exact allL_mem.1 obsDeep_r_0_0 1 (by simp)
      · exact allL_mem.1 obsDeep_r_0_0 2 (by simp)
      · exact allL_mem.1 obsDeep_r_0_0 3 (by simp)
      · exact allL_mem.1 obsDeep_r_0_4 4 (by simp)
      · exact allL_mem.1 obsDeep_r_0_4 5 (by simp)
      · exact allL_mem.1 obsDeep_r_0_4 6 (by simp)
      · exact allL_mem.1 obsDeep_r_0_4 7 (by simp)
      · exact allL_mem.1 obsDeep_r_0_8 8 (by simp)
      · exact allL_mem.1 obsDeep_r_0_8 9 (by simp)
      · exact allL_mem.1 obsDeep_r_0_8 10 (by simp)
      · exact allL_mem.1 obsDeep_r_0_8 11 (by simp)
      · exact allL_mem.1 obsDeep_r_0_12 12 (by simp)
      · exact allL_mem.1 obsDeep_r_0_12 13 (by simp)
      · exact allL_mem.1 obsDeep_r_0_12 14 (by simp)
      · exact allL_mem.1 obsDeep_r_0_12 15 (by simp)
      · exact allL_mem.1 obsDeep_r_0_16 16 (by simp)
      · exact allL_mem.1 obsDeep_r_0_16 17 (by simp)
      · exact allL_mem.1 obsDeep_r_0_16 18 (by simp)
      · exact allL_mem.1 obsDeep_r_0_16 19 (by simp)
      · exact allL_mem.1 obsDeep_r_0_20 20 (by simp)
      · exact allL_mem.1 obsDeep_r_0_20 21 (by simp)
      · exact allL_mem.1 obsDeep_r_0_20 22 (by simp)
      · exact allL_mem.1 obsDeep_r_0_20 23 (by simp)
      · exact allL_mem.1 obsDeep_r_0_24 24 (by simp)
      · exact allL_mem.1 obsDeep_r_0_24 25 (by simp)
      · exact allL_mem.1 obsDeep_r_0_24 26 (by simp)
      · exact allL_mem.1 obsDeep_r_0_24 27 (by simp)
      · exact allL_mem.1 obsDeep_r_0_28 28 (by simp)
      · exact allL_mem.1 obsDeep_r_0_28 29 (by simp)
      · exact allL_mem.1 obsDeep_r_0_28 30 (by simp)
      · exact allL_mem.1 obsDeep_r_0_28 31 (by simp)
      · exact allL_mem.1 obsDeep_r_0_32 32 (by simp)
      · exact allL_mem.1 obsDeep_r_0_32 33 (by simp)
      · exact allL_mem.1 obsDeep_r_0_32 34 (by simp)
      · exact allL_mem.1 obsDeep_r_0_32 35 (by simp)
      · exact allL_mem.1 obsDeep_r_0_36 36 (by simp)
      · exact allL_mem.1 obsDeep_r_0_36 37 (by simp)
  have k_1 : ∀ z ∈ [0, 1, 2, 3, 4, 5, 6, 7, 8, 9, 10, 11, 12, 13, 14, 15, 16, 17, 18, 19, 20, 21, 22, 23, 24, 25, 26, 27, 28, 29, 30, 31, 32, 33, 34, 35, 36, 37, 38], obsDeep_run 1 z = true := fun z hz => by
      simp only [List.mem_cons, List.not_mem_nil, or_false] at hz
      rcases hz with rfl | rfl | rfl | rfl | rfl | rfl | rfl | rfl | rfl | rfl | rfl | rfl | rfl | rfl | rfl | rfl | rfl | rfl | rfl | rfl | rfl | rfl | rfl | rfl | rfl | rfl | rfl | rfl | rfl | rfl | rfl | rfl | rfl | rfl | rfl | rfl | rfl | rfl | rfl
      · exact allL_mem.1 obsDeep_r_1_0 0 (by simp)
      · exact allL_mem.1 obsDeep_r_1_0 1 (by simp)
      · exact allL_mem.1 obsDeep_r_1_0 2 (by simp)
      · exact allL_mem.1 obsDeep_r_1_0 3 (by simp)
      · exact allL_mem.1 obsDeep_r_1_4 4 (by simp)
      · exact allL_mem.1 obsDeep_r_1_4 5 (by simp)
      · exact allL_mem.1 obsDeep_r_1_4 6 (by simp)
      · exact allL_mem.1 obsDeep_r_1_4 7 (by simp)
      · exact allL_mem.1 obsDeep_r_1_8 8 (by simp)
      · exact allL_mem.1 obsDeep_r_1_8 9 (by simp)
      · exact allL_mem.1 obsDeep_r_1_8 10 (by simp)
      · exact allL_mem.1 obsDeep_r_1_8 11 (by simp)
      · exact allL_mem.1 obsDeep_r_1_12 12 (by simp)
      · exact allL_mem.1 obsDeep_r_1_12 13 (by simp)
      · exact allL_mem.1 obsDeep_r_1_12 14 (by simp)
      · exact allL_mem.1 obsDeep_r_1_12 15 (by simp)
      · exact allL_mem.1 obsDeep_r_1_16 16 (by simp)
      · exact allL_mem.1 obsDeep_r_1_16 17 (by simp)
      · exact allL_mem.1 obsDeep_r_1_16 18 (by simp)
      · exact allL_mem.1 obsDeep_r_1_16 19 (by simp)
      · exact allL_mem.1 obsDeep_r_1_20 20 (by simp)
      · exact allL_mem.1 obsDeep_r_1_20 21 (by simp)
      · exact allL_mem.1 obsDeep_r_1_20 22 (by simp)
      · exact allL_mem.1 obsDeep_r_1_20 23 (by simp)
      · exact allL_mem.1 obsDeep_r_1_24 24 (by simp)
      · exact allL_mem.1 obsDeep_r_1_24 25 (by simp)
      · exact allL_mem.1 obsDeep_r_1_24 26 (by simp)
      · exact allL_mem.1 obsDeep_r_1_24 27 (by simp)
      · exact allL_mem.1 obsDeep_r_1_28 28 (by simp)
      · exact allL_mem.1 obsDeep_r_1_28 29 (by simp)
      · exact allL_mem.1 obsDeep_r_1_28 30 (by simp)
      · exact allL_mem.1 obsDeep_r_1_28 31 (by simp)
      · exact allL_mem.1 obsDeep_r_1_32 32 (by simp)
      · exact allL_mem.1 obsDeep_r_1_32 33 (by simp)
      · exact allL_mem.1 obsDeep_r_1_32 34 (by simp)
      · exact allL_mem.1 obsDeep_r_1_32 35 (by simp)
      · exact allL_mem.1 obsDeep_r_1_36 36 (by simp)
      · exact allL_mem.1 obsDeep_r_1_36 37 (by simp)
      · exact allL_mem.1 obsDeep_r_1_36 38 (by simp)
  have k_2 : ∀ z ∈ [0, 1, 2, 3, 4, 5, 6, 7, 8, 9, 10, 11, 12, 13, 14, 15, 16, 17, 18, 19, 20, 21, 22, 23, 24, 25, 26, 27, 28, 29, 30, 31, 32, 33, 34, 35, 36, 37, 38, 39], obsDeep_run 2 z = true := fun z hz => by
      simp only [List.mem_cons, List.not_mem_nil, or_false] at hz
      rcases hz with rfl | rfl | rfl | rfl | rfl | rfl | rfl | rfl | rfl | rfl | rfl | rfl | rfl | rfl | rfl | rfl | rfl | rfl | rfl | rfl | rfl | rfl | rfl | rfl | rfl | rfl | rfl | rfl | rfl | rfl | rfl | rfl | rfl | rfl | rfl | rfl | rfl | rfl | rfl | rfl
      · exact allL_mem.1 obsDeep_r_2_0 0 (by simp)
      · exact allL_mem.1 obsDeep_r_2_0 1 (by simp)
      · exact allL_mem.1 obsDeep_r_2_0 2 (by simp)
      · exact allL_mem.1 obsDeep_r_2_0 3 (by simp)
      · exact allL_mem.1 obsDeep_r_2_4 4 (by simp)
      · exact allL_mem.1 obsDeep_r_2_4 5 (by simp)
      · exact allL_mem.1 obsDeep_r_2_4 6 (by simp)
      · exact allL_mem.1 obsDeep_r_2_4 7 (by simp)
      · exact allL_mem.1 obsDeep_r_2_8 8 (by simp)
      · exact allL_mem.1 obsDeep_r_2_8 9 (by simp)
      · exact allL_mem.1 obsDeep_r_2_8 10 (by simp)
      · exact allL_mem.1 obsDeep_r_2_8 11 (by simp)
      · exact allL_mem.1 obsDeep_r_2_12 12 (by simp)
      · exact allL_mem.1 obsDeep_r_2_12 13 (by simp)
      · exact allL_mem.1 obsDeep_r_2_12 14 (by simp)
      · exact allL_mem.1 obsDeep_r_2_12 15 (by simp)
      · exact allL_mem.1 obsDeep_r_2_16 16 (by simp)
      · exact allL_mem.1 obsDeep_r_2_16 17 (by simp)
      · exact allL_mem.1 obsDeep_r_2_16 18 (by simp)
      · exact allL_mem.1 obsDeep_r_2_16 19 (by simp)
      · exact allL_mem.1 obsDeep_r_2_20 20 (by simp)
      · exact allL_mem.1 obsDeep_r_2_20 21 (by simp)
      · exact allL_mem.1 obsDeep_r_2_20 22 (by simp)
      · exact allL_mem.1 obsDeep_r_2_20 23 (by simp)
      · exact allL_mem.1 obsDeep_r_2_24 24 (by simp)
      · exact allL_mem.1 obsDeep_r_2_24 25 (by simp)
      · exact allL_mem.1 obsDeep_r_2_24 26 (by simp)
      · exact allL_mem.1 obsDeep_r_2_24 27 (by simp)
      · exact allL_mem.1 obsDeep_r_2_28 28 (by simp)
      · exact allL_mem.1 obsDeep_r_2_28 29 (by simp)
      · exact allL_mem.1 obsDeep_r_2_28 30 (by simp)
      · exact allL_mem.1 obsDeep_r_2_28 31 (by simp)
      · exact allL_mem.1 obsDeep_r_2_32 32 (by simp)
      · exact allL_mem.1 obsDeep_r_2_32 33 (by simp)
      · exact allL_mem.1 obsDeep_r_2_32 34 (by simp)
      · exact allL_mem.1 obsDeep_r_2_32 35 (by simp)
      · exact allL_mem.1 obsDeep_r_2_36 36 (by simp)
      · exact allL_mem.1 obsDeep_r_2_36 37 (by simp)
      · exact allL_mem.1 obsDeep_r_2_36 38 (by simp)
      · exact allL_mem.1 obsDeep_r_2_36 39 (by simp)
  have k_3 : ∀ z ∈ [0, 1, 2, 3, 4, 5, 6, 7, 8, 9, 10, 11, 12, 13, 14, 15, 16, 17, 18, 19, 20, 21, 22, 23, 24, 25, 26, 27, 28, 29, 30, 31, 32, 33, 34, 35, 36, 37, 38, 39, 40], obsDeep_run 3 z = true := fun z hz => by
      simp only [List.mem_cons, List.not_mem_nil, or_false] at hz
      rcases hz with rfl | rfl | rfl | rfl | rfl | rfl | rfl | rfl | rfl | rfl | rfl | rfl | rfl | rfl | rfl | rfl | rfl | rfl | rfl | rfl | rfl | rfl | rfl | rfl | rfl | rfl | rfl | rfl | rfl | rfl | rfl | rfl | rfl | rfl | rfl | rfl | rfl | rfl | rfl | rfl | rfl
      · exact allL_mem.1 obsDeep_r_3_0 0 (by simp)
      · exact allL_mem.1 obsDeep_r_3_0 1 (by simp)
      · exact allL_mem.1 obsDeep_r_3_0 2 (by simp)
      · exact allL_mem.1 obsDeep_r_3_0 3 (by simp)
      · exact allL_mem.1 obsDeep_r_3_4 4 (by simp)
      · exact allL_mem.1 obsDeep_r_3_4 5 (by simp)
      · exact allL_mem.1 obsDeep_r_3_4 6 (by simp)
      · exact allL_mem.1 obsDeep_r_3_4 7 (by simp)
      · exact allL_mem.1 obsDeep_r_3_8 8 (by simp)
      · exact allL_mem.1 obsDeep_r_3_8 9 (by simp)
      · exact allL_mem.1 obsDeep_r_3_8 10 (by simp)
      · exact allL_mem.1 obsDeep_r_3_8 11 (by simp)
      · exact allL_mem.1 obsDeep_r_3_12 12 (by simp)
      · exact allL_mem.1 obsDeep_r_3_12 13 (by simp)
      · exact allL_mem.1 obsDeep_r_3_12 14 (by simp)
      · exact allL_mem.1 obsDeep_r_3_12 15 (by simp)
      · exact allL_mem.1 obsDeep_r_3_16 16 (by simp)
      · exact allL_mem.1 obsDeep_r_3_16 17 (by simp)
      · exact allL_mem.1 obsDeep_r_3_16 18 (by simp)
      · exact allL_mem.1 obsDeep_r_3_16 19 (by simp)
      · exact allL_mem.1 obsDeep_r_3_20 20 (by simp)
      · exact allL_mem.1 obsDeep_r_3_20 21 (by simp)
      · exact allL_mem.1 obsDeep_r_3_20 22 (by simp)
      · exact allL_mem.1 obsDeep_r_3_20 23 (by simp)
      · exact allL_mem.1 obsDeep_r_3_24 24 (by simp)
      · exact allL_mem.1 obsDeep_r_3_24 25 (by simp)
      · exact allL_mem.1 obsDeep_r_3_24 26 (by simp)
      · exact allL_mem.1 obsDeep_r_3_24 27 (by simp)
      · exact allL_mem.1 obsDeep_r_3_28 28 (by simp)
      · exact allL_mem.1 obsDeep_r_3_28 29 (by simp)
      · exact allL_mem.1 obsDeep_r_3_28 30 (by simp)
      · exact allL_mem.1 obsDeep_r_3_28 31 (by simp)
      · exact allL_mem.1 obsDeep_r_3_32 32 (by simp)
      · exact allL_mem.1 obsDeep_r_3_32 33 (by simp)
      · exact allL_mem.1 obsDeep_r_3_32 34 (by simp)
      · exact allL_mem.1 obsDeep_r_3_32 35 (by simp)
      · exact allL_mem.1 obsDeep_r_3_36 36 (by simp)
      · exact allL_mem.1 obsDeep_r_3_36 37 (by simp)
      · exact allL_mem.1 obsDeep_r_3_36 38 (by simp)
      · exact allL_mem.1 obsDeep_r_3_36 39 (by simp)
      · exact allL_mem.1 obsDeep_r_3_40 40 (by simp)
  have k_4 : ∀ z ∈ [0], obsDeep_run 4 z = true := fun z hz => by
      simp only [List.mem_cons, List.not_mem_nil, or_false] at hz
      rcases hz with rfl
      · exact allL_mem.1 obsDeep_r_4_0 0 (by simp)
  have k_5 : ∀ z ∈ [0], obsDeep_run 5 z = true := fun z hz => by
      simp only [List.mem_cons, List.not_mem_nil, or_false] at hz
      rcases hz with rfl
      · exact allL_mem.1 obsDeep_r_5_0 0 (by simp)
  simp only [List.mem_cons, List.not_mem_nil, or_false] at m0
  rcases m0 with rfl | rfl | rfl | rfl | rfl | rfl
  · skip
    have h' : r1 < 38 := h1
    exact k_0 r1 (by simp; omega)
  · skip
    have h' : r1 < 39 := h1
    exact k_1 r1 (by simp; omega)
  · skip
    have h' : r1 < 40 := h1
    exact k_2 r1 (by simp; omega)
  · skip
    have h' : r1 < 41 := h1
    exact k_3 r1 (by simp; omega)
  · skip
    have h' : r1 < 1 := h1
    exact k_4 r1 (by simp; omega)
  · skip
    have h' : r1 < 1 := h1
    exact k_5 r1 (by simp; omega)
theorem obsDeep_any (x0 : Int) (x1 : Int) (q0 : (Lit.int .i64 x0).wf = true) (q1 : (Lit.int .i64 x1).wf = true) (W : World) (ht : ∀ sy : Nat → Value, ∃ size ea ez, Starts sy (gsFrom 166 obsDeep_tabs 1024 obsDeep_errs) (esFrom 1024 obsDeep_errs) W size ea ez) :
    Calls Tryz.prog 3 #[.int .i64 x0, .int .i64 x1] W fun e w' => e = .returned (.bool true) ∧ Go.RowKit.Below W.heap.size W w' := by
  obtain ⟨size, ea, ez, hs⟩ := ht (fun j => .int .i64 ((fun j => if j = 0 then x0 else if j = 1 then x1 else 0 : Nat → Int) j))
  have b0 := Int.emod_nonneg x0 (show (6 : Int) ≠ 0 by decide)
  have c0 := Int.emod_lt_of_pos x0 (show (0 : Int) < 6 by decide)
  have hdm : ∀ r : Nat, r < 6 → 0 < obsDeep_dm r := by
    intro r hr
    have hr' : r ∈ List.range 6 := List.mem_range.2 hr
    exact (show ∀ r ∈ List.range 6, 0 < obsDeep_dm r by decide +kernel) r hr'
  have hd := hdm (x0 % 6).toNat (by omega)
  generalize hD : obsDeep_dm (x0 % 6).toNat = D at hd
  have b1 := Int.emod_nonneg x1 (show (D : Int) ≠ 0 by omega)
  have c1 := Int.emod_lt_of_pos x1 (show (0 : Int) < D by omega)
  have hrun := obsDeep_all (x0 % 6).toNat (x1 % (D : Int)).toNat (by omega) (by rw [hD]; omega)
  unfold obsDeep_run at hrun
  obtain ⟨s', hrun⟩ := isT_some hrun
  have hbase : OvOk (fun j => .int .i64 ((fun j => if j = 0 then x0 else if j = 1 then x1 else 0 : Nat → Int) j)) Tryz.prog (obsDeep_base (x0 % 6).toNat (x1 % (D : Int)).toNat) := by
    refine (hIdx_ok (hStr_ok (hCopy_ok (hClone_ok (hClone_ok (hNum_ok (xs := fun j => if j = 0 then x0 else if j = 1 then x1 else 0) (fun x m h1 h2 w => number_any x m h1 h2 w) ⟨_, Tryz.func5, by kernel_rfl, by kernel_rfl⟩ (fun j _ _ _ => rfl) (rests_ok ?_)) (fun s w h => clone_any s w h) ⟨_, Tryz.func63, by kernel_rfl, by kernel_rfl⟩) (fun s w h => lite_clone s w h) ⟨_, Tryz.func86, by kernel_rfl, by kernel_rfl⟩) bld_ok) bld_ok) (fun s c w => idx_any s c w) ⟨_, Tryz.func81, by kernel_rfl, by kernel_rfl⟩)
    intro y hy
    simp only [List.mem_cons, List.not_mem_nil, or_false] at hy
    rcases hy with rfl | rfl
    · simp; omega
    · show x1 % ((obsDeep_dm (x0 % 6).toNat : Nat) : Int) = (((x1 % (D : Int)).toNat : Nat) : Int)
      rw [hD]; omega
  have hbase0 : OvOk (fun j => .int .i64 ((fun j => if j = 0 then x0 else if j = 1 then x1 else 0 : Nat → Int) j)) Tryz.prog obsDeep_base0 := (hIdx_ok (hStr_ok (hCopy_ok (hClone_ok (hClone_ok .none (fun s w h => clone_any s w h) ⟨_, Tryz.func63, by kernel_rfl, by kernel_rfl⟩) (fun s w h => lite_clone s w h) ⟨_, Tryz.func86, by kernel_rfl, by kernel_rfl⟩) bld_ok) bld_ok) (fun s c w => idx_any s c w) ⟨_, Tryz.func81, by kernel_rfl, by kernel_rfl⟩)
  refine closedF hs (obsDeep_ovok (x0 % 6).toNat (x1 % (D : Int)).toNat hbase hbase0) hrun ?_
  · exact ⟨_, _, rfl, ⟨rfl, _, rfl, obsDeep_wrap q0, fun hge => absurd hge (by decide)⟩, ⟨_, _, rfl, ⟨rfl, _, rfl, obsDeep_wrap q1, fun hge => absurd hge (by decide)⟩, rfl⟩⟩
end Go.Proofs.YtibofjdnkldddaaGreatDoor
