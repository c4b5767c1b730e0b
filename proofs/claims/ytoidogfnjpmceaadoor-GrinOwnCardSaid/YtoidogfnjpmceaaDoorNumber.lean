/- gristmillworld.Number: what is left of any number, from 0 on. No conditions. -/
import Derived.Test.YtoidogfnjpmceaaDoorRows
import Derived.WalkKit
import Derived.WalkSpells
import Derived.Lib.Hide
import Derived.WalkLawsBesides
namespace Go.Proofs.YtoidogfnjpmceaaDoor
open Go.RowKit
theorem tmod_small (x m : Int) (hm : 0 < m) (hm2 : m ≤ 1000000) : -1000000 ≤ x.tmod m ∧ x.tmod m ≤ 1000000 := by
  have h1 := Int.tmod_lt_of_pos x hm
  have h2 : -m < x.tmod m := by
    have := Int.lt_tmod_of_pos x hm
    omega
  omega
theorem number_any (x m : Int) (hm : 0 < m) (hm2 : m ≤ 1000000) (w : World) :
    Calls Tryd.prog 8 #[.int .i64 x, .int .i64 m] w fun e w' => e = .returned (.int .i64 (x % m)) ∧ w = w' := by
  have hb : (m == 0) = false := by simp; omega
  have hb0 : ¬ m = 0 := by omega
  obtain ⟨s1, s2⟩ := tmod_small x m hm hm2
  by_cases h : x.tmod m < 0
  · have hd : decide (x.tmod m < 0) = true := decide_eq_true h
    have hw : wrap64 (x.tmod m + m) = x % m := by
      rw [IntWalk.wrap64_in _ ⟨by omega, by omega⟩]
      have hx : ¬ 0 ≤ x := fun h0 => by
        have := Int.tmod_nonneg m h0
        omega
      have h1 := Int.emod_nonneg x (by omega : m ≠ 0)
      have h2 := Int.emod_lt_of_pos x hm
      have h3 := Int.emod_add_mul_ediv x m
      have h4 := Int.tmod_add_mul_tdiv x m
      have h5 : -m < x.tmod m := by
        have := Int.lt_tmod_of_pos x hm
        omega
      have h6 : (x.tmod m + m) = x % m + m * (x / m - x.tdiv m + 1) := by
        rw [Int.mul_add, Int.mul_sub]; omega
      have h7 : x / m - x.tdiv m + 1 = 0 := by
        generalize x / m - x.tdiv m + 1 = k at h6
        rcases Int.lt_trichotomy k 0 with q | q | q
        · have : m * k ≤ m * (-1) := Int.mul_le_mul_of_nonneg_left (by omega) (by omega)
          omega
        · exact q
        · have : m * 1 ≤ m * k := Int.mul_le_mul_of_nonneg_left (by omega) (by omega)
          omega
      rw [h7] at h6; omega
    clear s1 s2 h
    generalize hr : x % m = r at *
    go_enter Tryd.func8, Tryd.ntmps8
    go_wp2_with fail
    go_ret
    exact ⟨by rw [← hw]; rfl, rfl⟩
  · have hd : decide (x.tmod m < 0) = false := decide_eq_false h
    have hw : x.tmod m = x % m := by
      have h1 := Int.emod_nonneg x (by omega : m ≠ 0)
      have h2 := Int.emod_lt_of_pos x hm
      have h3 := Int.emod_add_mul_ediv x m
      have h4 := Int.tmod_add_mul_tdiv x m
      have h5 := Int.tmod_lt_of_pos x hm
      have h6 : x.tmod m = x % m + m * (x / m - x.tdiv m) := by
        rw [Int.mul_sub]; omega
      have h7 : x / m - x.tdiv m = 0 := by
        generalize x / m - x.tdiv m = k at h6
        rcases Int.lt_trichotomy k 0 with q | q | q
        · have : m * k ≤ m * (-1) := Int.mul_le_mul_of_nonneg_left (by omega) (by omega)
          omega
        · exact q
        · have : m * 1 ≤ m * k := Int.mul_le_mul_of_nonneg_left (by omega) (by omega)
          omega
      rw [h7] at h6; omega
    rw [hw] at hd
    clear s1 s2 h
    go_enter Tryd.func8, Tryd.ntmps8
    go_wp2_with fail
    go_ret
    exact ⟨rfl, rfl⟩
end Go.Proofs.YtoidogfnjpmceaaDoor
