/- LiftNests: called with any arguments, the law answers true, and what lay in memory stands. Conditions: the listed variables read as start-up lays them. -/
import Derived.Test.YtgpiepdkcpkokaaGreatDoorLiftNestsR0
import Derived.Test.YtgpiepdkcpkokaaGreatDoorLiftNestsR1
import Derived.Test.YtgpiepdkcpkokaaGreatDoorLiftNestsR2
import Derived.Test.YtgpiepdkcpkokaaGreatDoorLiftNestsR3
import Derived.Test.YtgpiepdkcpkokaaGreatDoorLiftNestsR4
import Derived.Test.YtgpiepdkcpkokaaGreatDoorLiftNestsR5
import Derived.Test.YtgpiepdkcpkokaaGreatDoorLiftNestsR6
import Derived.Test.YtgpiepdkcpkokaaGreatDoorLiftNestsR7
import Derived.Test.YtgpiepdkcpkokaaGreatDoorLiftNestsR8
import Derived.Test.YtgpiepdkcpkokaaGreatDoorLiftNestsR9
import Derived.Test.YtgpiepdkcpkokaaGreatDoorLiftNestsR10
import Derived.Test.YtgpiepdkcpkokaaGreatDoorLiftNestsR11
import Derived.Test.YtgpiepdkcpkokaaGreatDoorNumber
import Derived.Test.YtgpiepdkcpkokaaGreatDoorBld
namespace Go.Proofs.YtgpiepdkcpkokaaGreatDoor
open Go.Ex
theorem liftNests_wrap {n : Int} (h : (Lit.int .i64 n).wf = true) : IntKind.i64.wrap n = n := by
  simp only [Lit.wf, Bool.and_eq_true, decide_eq_true_eq] at h
  obtain ⟨h1, h2⟩ := h
  have e1 : IntKind.i64.min = -9223372036854775808 := by decide
  have e2 : IntKind.i64.max = 9223372036854775807 := by decide
  rw [e1] at h1
  rw [e2] at h2
  have e3 : IntKind.i64.wrap n = if n % 18446744073709551616 ≥ 9223372036854775808 then n % 18446744073709551616 - 18446744073709551616 else n % 18446744073709551616 := by
    unfold IntKind.wrap
    simp [IntKind.bits, IntKind.signed]
  rw [e3]
  split <;> omega
theorem liftNests_all : ∀ (r0 : Nat) (r1 : Nat), r0 < 8 → r1 < liftNests_dm1 r0 → liftNests_run r0 r1 = true := by
  intro r0 r1 h0 h1
  have m0 : r0 ∈ [0, 1, 2, 3, 4, 5, 6, 7] := by simp; omega
  have k_0 : ∀ z ∈ [0], liftNests_run 0 z = true := fun z hz => by
      simp only [List.mem_cons, List.not_mem_nil, or_false] at hz
      rcases hz with rfl
      · exact allL_mem.1 liftNests_r_0_0 0 (by simp)
  have k_1 : ∀ z ∈ [0, 1], liftNests_run 1 z = true := fun z hz => by
      simp only [List.mem_cons, List.not_mem_nil, or_false] at hz
      rcases hz with rfl | rfl
      · exact allL_mem.1 liftNests_r_1_0 0 (by simp)
      · exact allL_mem.1 liftNests_r_1_1 1 (by simp)
  have k_2 : ∀ z ∈ [0, 1, 2], liftNests_run 2 z = true := fun z hz => by
      simp only [List.mem_cons, List.not_mem_nil, or_false] at hz
      rcases hz with rfl | rfl | rfl
      · exact allL_mem.1 liftNests_r_2_0 0 (by simp)
      · exact allL_mem.1 liftNests_r_2_1 1 (by simp)
      · exact allL_mem.1 liftNests_r_2_2 2 (by simp)
  have k_3 : ∀ z ∈ [0, 1, 2, 3], liftNests_run 3 z = true := fun z hz => by
      simp only [List.mem_cons, List.not_mem_nil, or_false] at hz
      rcases hz with rfl | rfl | rfl | rfl
      · exact allL_mem.1 liftNests_r_3_0 0 (by simp)
      · exact allL_mem.1 liftNests_r_3_1 1 (by simp)
      · exact allL_mem.1 liftNests_r_3_2 2 (by simp)
      · exact allL_mem.1 liftNests_r_3_3 3 (by simp)
  have k_4 : ∀ z ∈ [0, 1, 2, 3, 4], liftNests_run 4 z = true := fun z hz => by
      simp only [List.mem_cons, List.not_mem_nil, or_false] at hz
      rcases hz with rfl | rfl | rfl | rfl | rfl
      · exact allL_mem.1 liftNests_r_4_0 0 (by simp)
      · exact allL_mem.1 liftNests_r_4_1 1 (by simp)
      · exact allL_mem.1 liftNests_r_4_2 2 (by simp)
      · exact allL_mem.1 liftNests_r_4_3 3 (by simp)
      · exact allL_mem.1 liftNests_r_4_4 4 (by simp)
  have k_5 : ∀ z ∈ [0, 1, 2, 3, 4, 5], liftNests_run 5 z = true := fun z hz => by
      simp only [List.mem_cons, List.not_mem_nil, or_false] at hz
      rcases hz with rfl | rfl | rfl | rfl | rfl | rfl
      · exact allL_mem.1 liftNests_r_5_0 0 (by simp)
      · exact allL_mem.1 liftNests_r_5_1 1 (by simp)
      · exact allL_mem.1 liftNests_r_5_2 2 (by simp)
      · exact allL_mem.1 liftNests_r_5_3 3 (by simp)
      · exact allL_mem.1 liftNests_r_5_4 4 (by simp)
      · exact allL_mem.1 liftNests_r_5_5 5 (by simp)
  have k_6 : ∀ z ∈ [0, 1, 2, 3, 4, 5, 6], liftNests_run 6 z = true := fun z hz => by
      simp only [List.mem_cons, List.not_mem_nil, or_false] at hz
      rcases hz with rfl | rfl | rfl | rfl | rfl | rfl | rfl
      · exact allL_mem.1 liftNests_r_6_0 0 (by simp)
      · exact allL_mem.1 liftNests_r_6_1 1 (by simp)
      · exact allL_mem.1 liftNests_r_6_2 2 (by simp)
      · exact allL_mem.1 liftNests_r_6_3 3 (by simp)
      · exact allL_mem.1 liftNests_r_6_4 4 (by simp)
      · exact allL_mem.1 liftNests_r_6_5 5 (by simp)
      · exact allL_mem.1 liftNests_r_6_6 6 (by simp)
  have k_7 : ∀ z ∈ [0, 1, 2, 3, 4, 5, 6, 7], liftNests_run 7 z = true := fun z hz => by
      simp only [List.mem_cons, List.not_mem_nil, or_false] at hz
      rcases hz with rfl | rfl | rfl | rfl | rfl | rfl | rfl | rfl
      · exact allL_mem.1 liftNests_r_7_0 0 (by simp)
      · exact allL_mem.1 liftNests_r_7_1 1 (by simp)
      · exact allL_mem.1 liftNests_r_7_2 2 (by simp)
      · exact allL_mem.1 liftNests_r_7_3 3 (by simp)
      · exact allL_mem.1 liftNests_r_7_4 4 (by simp)
      · exact allL_mem.1 liftNests_r_7_5 5 (by simp)
      · exact allL_mem.1 liftNests_r_7_6 6 (by simp)
      · exact allL_mem.1 liftNests_r_7_7 7 (by simp)
  simp only [List.mem_cons, List.not_mem_nil, or_false] at m0
  rcases m0 with rfl | rfl | rfl | rfl | rfl | rfl | rfl | rfl
  · skip
    have h' : r1 < 1 := h1
    exact k_0 r1 (by simp; omega)
  · skip
    have h' : r1 < 2 := h1
    exact k_1 r1 (by simp; omega)
  · skip
    have h' : r1 < 3 := h1
    exact k_2 r1 (by simp; omega)
  · skip
    have h' : r1 < 4 := h1
    exact k_3 r1 (by simp; omega)
  · skip
    have h' : r1 < 5 := h1
    exact k_4 r1 (by simp; omega)
  · skip
    have h' : r1 < 6 := h1
    exact k_5 r1 (by simp; omega)
  · skip
    have h' : r1 < 7 := h1
    exact k_6 r1 (by simp; omega)
  · skip
    have h' : r1 < 8 := h1
    exact k_7 r1 (by simp; omega)
theorem liftNests_any (x0 : Int) (x1 : Int) (q0 : (Lit.int .i64 x0).wf = true) (q1 : (Lit.int .i64 x1).wf = true) (W : World) (ht : ∀ sy : Nat → Value, ∃ size ea ez, Starts sy (gsFrom 277 liftNests_tabs 1024 liftNests_errs) (esFrom 1024 liftNests_errs) W size ea ez) :
    Calls Tryz.prog 3 #[.int .i64 x0, .int .i64 x1] W fun e w' => e = .returned (.bool true) ∧ Go.RowKit.Below W.heap.size W w' := by
  obtain ⟨size, ea, ez, hs⟩ := ht (fun j => .int .i64 ((fun j => if j = 0 then x0 else if j = 1 then x1 else 0 : Nat → Int) j))
  have b0 := Int.emod_nonneg x0 (show (8 : Int) ≠ 0 by decide)
  have c0 := Int.emod_lt_of_pos x0 (show (0 : Int) < 8 by decide)
  have hdm1 : ∀ r : Nat, r < 8 → 0 < liftNests_dm1 r := by
    intro r hr
    have hr' : r ∈ List.range 8 := List.mem_range.2 hr
    exact (show ∀ r ∈ List.range 8, 0 < liftNests_dm1 r by decide +kernel) r hr'
  have hd1 := hdm1 (x0 % 8).toNat (by omega)
  generalize hD1 : liftNests_dm1 (x0 % 8).toNat = D1 at hd1
  have b1 := Int.emod_nonneg x1 (show (D1 : Int) ≠ 0 by omega)
  have c1 := Int.emod_lt_of_pos x1 (show (0 : Int) < D1 by omega)
  have hrun := liftNests_all (x0 % 8).toNat (x1 % (D1 : Int)).toNat (by omega) (by rw [hD1]; omega)
  unfold liftNests_run at hrun
  obtain ⟨s', hrun⟩ := isT_some hrun
  have hbase : OvOk (fun j => .int .i64 ((fun j => if j = 0 then x0 else if j = 1 then x1 else 0 : Nat → Int) j)) Tryz.prog (liftNests_base (x0 % 8).toNat (x1 % (D1 : Int)).toNat) := by
    refine (hStr_ok (hCopy_ok (hNum_ok (xs := fun j => if j = 0 then x0 else if j = 1 then x1 else 0) (fun x m h1 h2 w => number_any x m h1 h2 w) ⟨_, Tryz.func5, by kernel_rfl, by kernel_rfl⟩ (fun j _ _ _ => rfl) (rests_ok ?_)) bld_ok) bld_ok)
    intro y hy
    simp only [List.mem_cons, List.not_mem_nil, or_false] at hy
    rcases hy with rfl | rfl
    · simp; omega
    · show x1 % ((liftNests_dm1 (x0 % 8).toNat : Nat) : Int) = (((x1 % (D1 : Int)).toNat : Nat) : Int)
      rw [hD1]; omega
  have hbase0 : OvOk (fun j => .int .i64 ((fun j => if j = 0 then x0 else if j = 1 then x1 else 0 : Nat → Int) j)) Tryz.prog liftNests_base0 := (hStr_ok (hCopy_ok .none bld_ok) bld_ok)
  refine closedF hs (liftNests_ovok (x0 % 8).toNat (x1 % (D1 : Int)).toNat hbase hbase0) hrun ?_
  · exact ⟨_, _, rfl, ⟨rfl, _, rfl, liftNests_wrap q0, fun hge => absurd hge (by decide), fun hge => absurd hge (by decide)⟩, ⟨_, _, rfl, ⟨rfl, _, rfl, liftNests_wrap q1, fun hge => absurd hge (by decide), fun hge => absurd hge (by decide)⟩, rfl⟩⟩
end Go.Proofs.YtgpiepdkcpkokaaGreatDoor
