/- Rnd of stage 1: floats. -/
import Derived.Test.YtdmgaaaomleojaaGreatDoorFlW8
namespace Go.Proofs.YtdmgaaaomleojaaGreatDoor.Fl
open Ieee
/-- How many binary digits are dropped of so many units. -/
def dropOf (N : Nat) : Nat := N.log2 - 52
/-- To the nearest whole number of 2^L units; of two, the even one. -/
def half (N L : Nat) : Nat := N / 2 ^ L + (decide (2 ^ L < 2 * (N % 2 ^ L)) || (2 ^ L == 2 * (N % 2 ^ L) && N / 2 ^ L % 2 == 1)).toNat
/-- The rung nearest to so many units. -/
def rnd (N : Nat) : Nat := if N = 0 then 0 else min (dropOf N * 4503599627370496 + half N (dropOf N)) 9218868437227405312
theorem cut_even (s : Bool) (n d : Nat) (h : d ≤ n.log2 + 2) : Toward.even.cut s n d = half n d := by
  unfold Toward.cut half
  rw [Nat.min_eq_left h, Nat.one_shiftLeft]
theorem half_scale (n d k : Nat) : half (n * 2 ^ k) (d + k) = half n d := by
  unfold half
  have hp := Nat.two_pow_pos k
  have e1 : n * 2 ^ k / 2 ^ (d + k) = n / 2 ^ d := by rw [Nat.pow_add, Nat.mul_div_mul_right _ _ hp]
  have e2 : n * 2 ^ k % 2 ^ (d + k) = n % 2 ^ d * 2 ^ k := by rw [Nat.pow_add, Nat.mul_mod_mul_right]
  rw [e1, e2]
  have e3 : decide (2 ^ (d + k) < 2 * (n % 2 ^ d * 2 ^ k)) = decide (2 ^ d < 2 * (n % 2 ^ d)) := by
    rw [Nat.pow_add, ← Nat.mul_assoc]
    congr 1
    rw [Nat.mul_lt_mul_right hp]
  have e4 : (2 ^ (d + k) == 2 * (n % 2 ^ d * 2 ^ k)) = (2 ^ d == 2 * (n % 2 ^ d)) := by
    rw [Nat.pow_add, ← Nat.mul_assoc, Bool.eq_iff_iff, beq_iff_eq, beq_iff_eq]
    exact ⟨fun h => Nat.eq_of_mul_eq_mul_right hp h, fun h => congrArg (· * 2 ^ k) h⟩
  rw [e3, e4]
theorem half_zero (n : Nat) : half n 0 = n := by
  unfold half
  simp [Nat.mod_one]
theorem half_exact (n k : Nat) : half (n * 2 ^ k) k = n := by
  have := half_scale n 0 k
  rw [Nat.zero_add, half_zero] at this
  exact this
/-- THE WORD NEAREST TO A NUMBER hangs on how many units it is alone. -/
theorem nearest_rnd (s : Bool) (m k : Nat) : Ieee.double.nearest s m (-1074 + (k : Int)) = Ieee.double.word s (rnd (m * 2 ^ k)) := by
  unfold Format.nearest rnd
  have hp := Nat.two_pow_pos k
  by_cases hm : m = 0
  · subst hm
    rw [if_pos rfl, Nat.zero_mul, if_pos rfl]
  · have hm0 : 0 < m := by omega
    have hne : m * 2 ^ k ≠ 0 := by have := Nat.mul_pos hm0 hp; omega
    rw [if_neg hm, if_neg hne]
    simp only [d_least, d_binade, d_inf]
    have hfb : (Ieee.double.fractionBits : Int) = 52 := rfl
    have hd : dropOf (m * 2 ^ k) = m.log2 + k - 52 := by unfold dropOf; rw [log2_mul m k hm0]
    generalize hl : m.log2 = l at *
    generalize hD : dropOf (m * 2 ^ k) = D at *
    have e1 : max (-1074 + (k : Int) + (l : Int) - (Ieee.double.fractionBits : Int)) (-1074) = -1074 + (D : Int) := by omega
    rw [e1]
    have e2 : (-1074 + (D : Int) - -1074).toNat = D := by omega
    rw [e2]
    congr 3
    rcases Nat.le_total D k with h | h
    · have e3 : (-1074 + (k : Int) - (-1074 + (D : Int))).toNat = k - D := by omega
      have e4 : (-1074 + (D : Int) - (-1074 + (k : Int))).toNat = 0 := by omega
      rw [e3, e4, cut_even _ _ _ (by omega), half_zero, Nat.shiftLeft_eq]
      have : m * 2 ^ k = m * 2 ^ (k - D) * 2 ^ D := by rw [Nat.mul_assoc, ← Nat.pow_add, show k - D + D = k by omega]
      rw [this, half_exact]
    · have e3 : (-1074 + (k : Int) - (-1074 + (D : Int))).toNat = 0 := by omega
      have e4 : (-1074 + (D : Int) - (-1074 + (k : Int))).toNat = D - k := by omega
      rw [e3, e4, Nat.shiftLeft_zero, cut_even _ _ _ (by omega)]
      have := half_scale m (D - k) k
      rw [show D - k + k = D by omega] at this
      exact this.symm
theorem rnd_zero : rnd 0 = 0 := rfl
/-- What a whole number of units is rounded to, in units. -/
def G (T : Int) : Int := sgn (decide (T < 0)) (V (rnd T.natAbs))
end Go.Proofs.YtdmgaaaomleojaaGreatDoor.Fl
