/- Numbers of 64 bits: what goes round, quotients and rests. No conditions. -/
import Derived.IntWalk
namespace Go.Proofs.YtmpkgbpnejajpaaDoor
open Go.RowKit

theorem wrap_ex (x : Int) : ∃ k : Int, wrap64 x = x + k * 18446744073709551616 := by
  refine ⟨-((x + 9223372036854775808) / 18446744073709551616), ?_⟩
  unfold wrap64
  omega
theorem wrap_eq (x y k : Int) (h : x = y + k * 18446744073709551616) : wrap64 x = wrap64 y := by
  unfold wrap64
  omega
theorem wrap_rg (x : Int) : -9223372036854775808 ≤ wrap64 x ∧ wrap64 x ≤ 9223372036854775807 := by
  unfold wrap64
  omega
theorem wrap_in (x : Int) (h0 : -9223372036854775808 ≤ x) (h1 : x ≤ 9223372036854775807) : wrap64 x = x := IntWalk.wrap64_in x ⟨h0, h1⟩
theorem wrap_add_l (x y : Int) : wrap64 (wrap64 x + y) = wrap64 (x + y) := by
  obtain ⟨k, hk⟩ := wrap_ex x
  exact wrap_eq _ _ k (by rw [hk]; omega)
theorem wrap_add_r (x y : Int) : wrap64 (x + wrap64 y) = wrap64 (x + y) := by
  rw [Int.add_comm, wrap_add_l, Int.add_comm]
theorem wrap_sub_l (x y : Int) : wrap64 (wrap64 x - y) = wrap64 (x - y) := by
  obtain ⟨k, hk⟩ := wrap_ex x
  exact wrap_eq _ _ k (by rw [hk]; omega)
theorem wrap_mul_l (x y : Int) : wrap64 (wrap64 x * y) = wrap64 (x * y) := by
  obtain ⟨k, hk⟩ := wrap_ex x
  refine wrap_eq _ _ (k * y) ?_
  rw [hk, Int.add_mul, Int.mul_assoc, Int.mul_comm 18446744073709551616 y, ← Int.mul_assoc]
theorem wrap_mul_r (x y : Int) : wrap64 (x * wrap64 y) = wrap64 (x * y) := by
  rw [Int.mul_comm, wrap_mul_l, Int.mul_comm]

/-- The quotient times the divisor, and the rest. -/
theorem quo_rem (a b : Int) (h0 : -9223372036854775808 ≤ a) (h1 : a ≤ 9223372036854775807) : wrap64 (wrap64 (wrap64 (a.tdiv b) * b) + a.tmod b) = a := by
  rw [wrap_add_l]
  have e : wrap64 (wrap64 (a.tdiv b) * b + a.tmod b) = wrap64 (wrap64 (wrap64 (a.tdiv b) * b) + a.tmod b) := (wrap_add_l _ _).symm
  rw [e, wrap_mul_l, wrap_add_l, Int.mul_comm, Int.mul_tdiv_add_tmod]
  exact wrap_in a h0 h1
theorem rem_sign (a b : Int) : a.tmod b = 0 ∨ (a.tmod b < 0 ∧ a < 0) ∨ (0 < a.tmod b ∧ 0 ≤ a) := by
  by_cases h : 0 ≤ a
  · have := Int.tmod_nonneg b h
    omega
  · have := Int.tmod_nonneg b (show 0 ≤ -a by omega)
    rw [Int.neg_tmod] at this
    omega
theorem rem_small (a b : Int) (hb : b ≠ 0) : (0 < b ∧ a.tmod b < b ∧ -b < a.tmod b) ∨ (b < 0 ∧ b < a.tmod b ∧ a.tmod b < -b) := by
  have h := Int.natAbs_tmod a b
  have h2 : a.natAbs % b.natAbs < b.natAbs := Nat.mod_lt _ (by omega)
  omega
end Go.Proofs.YtmpkgbpnejajpaaDoor
