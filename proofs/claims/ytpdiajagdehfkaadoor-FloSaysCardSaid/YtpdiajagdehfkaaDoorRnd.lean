/- Rounding to the nearest keeps the order: the word nearest to a number of units; a sum of finite floats. No conditions. -/
import Derived.Test.YtpdiajagdehfkaaDoorVal
namespace Go.Proofs.YtpdiajagdehfkaaDoor
open Ieee

/-- How many binary digits are dropped of so many units. -/
def dropOf (N : Nat) : Nat := N.log2 - 52
/-- To the nearest whole number of 2^L units; of two, the even one. -/
def half (N L : Nat) : Nat := N / 2 ^ L + (decide (2 ^ L < 2 * (N % 2 ^ L)) || (2 ^ L == 2 * (N % 2 ^ L) && N / 2 ^ L % 2 == 1)).toNat
/-- The rung nearest to so many units. -/
def rnd (N : Nat) : Nat := if N = 0 then 0 else min (dropOf N * 4503599627370496 + half N (dropOf N)) 9218868437227405312

theorem cut_even (s : Bool) (n d : Nat) (h : d ≤ n.log2 + 2) : Toward.even.cut s n d = half n d := by
  unfold Toward.cut half
  rw [Nat.min_eq_left h, Nat.one_shiftLeft]

theorem half_scale (n d k : Nat) : half (n * 2 ^ k) (d + k) = half n d := by
  unfold half
  have hp := Nat.two_pow_pos k
  have e1 : n * 2 ^ k / 2 ^ (d + k) = n / 2 ^ d := by rw [Nat.pow_add, Nat.mul_div_mul_right _ _ hp]
  have e2 : n * 2 ^ k % 2 ^ (d + k) = n % 2 ^ d * 2 ^ k := by rw [Nat.pow_add, Nat.mul_mod_mul_right]
  rw [e1, e2]
  have e3 : decide (2 ^ (d + k) < 2 * (n % 2 ^ d * 2 ^ k)) = decide (2 ^ d < 2 * (n % 2 ^ d)) := by
    rw [Nat.pow_add, ← Nat.mul_assoc]
    congr 1
    rw [Nat.mul_lt_mul_right hp]
  have e4 : (2 ^ (d + k) == 2 * (n % 2 ^ d * 2 ^ k)) = (2 ^ d == 2 * (n % 2 ^ d)) := by
    rw [Nat.pow_add, ← Nat.mul_assoc, Bool.eq_iff_iff, beq_iff_eq, beq_iff_eq]
    exact ⟨fun h => Nat.eq_of_mul_eq_mul_right hp h, fun h => congrArg (· * 2 ^ k) h⟩
  rw [e3, e4]

theorem half_zero (n : Nat) : half n 0 = n := by
  unfold half
  simp [Nat.mod_one]

theorem half_exact (n k : Nat) : half (n * 2 ^ k) k = n := by
  have := half_scale n 0 k
  rw [Nat.zero_add, half_zero] at this
  exact this

/-- THE WORD NEAREST TO A NUMBER hangs on how many units it is alone. -/
theorem nearest_rnd (s : Bool) (m k : Nat) : Ieee.double.nearest s m (-1074 + (k : Int)) = Ieee.double.word s (rnd (m * 2 ^ k)) := by
  unfold Format.nearest rnd
  have hp := Nat.two_pow_pos k
  by_cases hm : m = 0
  · subst hm
    rw [if_pos rfl, Nat.zero_mul, if_pos rfl]
  · have hm0 : 0 < m := by omega
    have hne : m * 2 ^ k ≠ 0 := by have := Nat.mul_pos hm0 hp; omega
    rw [if_neg hm, if_neg hne]
    simp only [d_least, d_binade, d_inf]
    have hfb : (Ieee.double.fractionBits : Int) = 52 := rfl
    have hd : dropOf (m * 2 ^ k) = m.log2 + k - 52 := by unfold dropOf; rw [log2_mul m k hm0]
    generalize hl : m.log2 = l at *
    generalize hD : dropOf (m * 2 ^ k) = D at *
    have e1 : max (-1074 + (k : Int) + (l : Int) - (Ieee.double.fractionBits : Int)) (-1074) = -1074 + (D : Int) := by omega
    rw [e1]
    have e2 : (-1074 + (D : Int) - -1074).toNat = D := by omega
    rw [e2]
    congr 3
    rcases Nat.le_total D k with h | h
    · have e3 : (-1074 + (k : Int) - (-1074 + (D : Int))).toNat = k - D := by omega
      have e4 : (-1074 + (D : Int) - (-1074 + (k : Int))).toNat = 0 := by omega
      rw [e3, e4, cut_even _ _ _ (by omega), half_zero, Nat.shiftLeft_eq]
      have : m * 2 ^ k = m * 2 ^ (k - D) * 2 ^ D := by rw [Nat.mul_assoc, ← Nat.pow_add, show k - D + D = k by omega]
      rw [this, half_exact]
    · have e3 : (-1074 + (k : Int) - (-1074 + (D : Int))).toNat = 0 := by omega
      have e4 : (-1074 + (D : Int) - (-1074 + (k : Int))).toNat = D - k := by omega
      rw [e3, e4, Nat.shiftLeft_zero, cut_even _ _ _ (by omega)]
      have := half_scale m (D - k) k
      rw [show D - k + k = D by omega] at this
      exact this.symm

theorem half_mono {n n' L : Nat} (h : n ≤ n') : half n L ≤ half n' L := by
  unfold half
  have hp := Nat.two_pow_pos L
  have hq : n / 2 ^ L ≤ n' / 2 ^ L := Nat.div_le_div_right h
  have hb : ∀ b : Bool, b.toNat ≤ 1 := fun b => by cases b <;> simp
  rcases Nat.lt_or_eq_of_le hq with hq | hq
  · have := hb (decide (2 ^ L < 2 * (n % 2 ^ L)) || (2 ^ L == 2 * (n % 2 ^ L) && n / 2 ^ L % 2 == 1))
    omega
  · have e1 := Nat.div_add_mod n (2 ^ L)
    have e2 := Nat.div_add_mod n' (2 ^ L)
    rw [← hq] at e2 ⊢
    have hr : n % 2 ^ L ≤ n' % 2 ^ L := by omega
    generalize n % 2 ^ L = r at *
    generalize n' % 2 ^ L = r' at *
    generalize 2 ^ L = g at *
    generalize n / g = q at *
    refine Nat.add_le_add_left ?_ _
    by_cases h1 : g < 2 * r
    · have h2 : g < 2 * r' := by omega
      simp [h1, h2]
    · by_cases h3 : g = 2 * r
      · by_cases h4 : g < 2 * r'
        · simp only [h4, decide_true, Bool.true_or]
          exact hb _
        · have h5 : g = 2 * r' := by omega
          have : r = r' := by omega
          subst this
          exact Nat.le_refl _
      · have : (decide (g < 2 * r) || g == 2 * r && q % 2 == 1) = false := by simp [h1, h3]
        rw [this]
        exact Nat.zero_le _

theorem half_le {n L : Nat} (h : n < 2 ^ (L + 53)) : half n L ≤ 9007199254740992 := by
  unfold half
  have hb : ∀ b : Bool, b.toNat ≤ 1 := fun b => by cases b <;> simp
  have hq : n / 2 ^ L < 9007199254740992 := by
    rw [Nat.div_lt_iff_lt_mul (Nat.two_pow_pos L)]
    rw [show 9007199254740992 * 2 ^ L = 2 ^ (L + 53) by rw [Nat.pow_add, Nat.mul_comm]]
    exact h
  have := hb (decide (2 ^ L < 2 * (n % 2 ^ L)) || (2 ^ L == 2 * (n % 2 ^ L) && n / 2 ^ L % 2 == 1))
  omega
theorem half_ge {n L : Nat} (h : 2 ^ (L + 52) ≤ n) : 4503599627370496 ≤ half n L := by
  unfold half
  have hq : 4503599627370496 ≤ n / 2 ^ L := by
    rw [Nat.le_div_iff_mul_le (Nat.two_pow_pos L)]
    rw [show 4503599627370496 * 2 ^ L = 2 ^ (L + 52) by rw [Nat.pow_add, Nat.mul_comm]]
    exact h
  omega

/-- ROUNDING KEEPS THE ORDER. -/
theorem rnd_mono {N N' : Nat} (h : N ≤ N') : rnd N ≤ rnd N' := by
  unfold rnd
  by_cases h0 : N = 0
  · rw [if_pos h0]; exact Nat.zero_le _
  · rw [if_neg h0, if_neg (by omega)]
    have hb : dropOf N * 4503599627370496 + half N (dropOf N) ≤ dropOf N' * 4503599627370496 + half N' (dropOf N') := by
      have hl : N.log2 ≤ N'.log2 := by
        rw [Nat.le_log2 (by omega)]
        exact Nat.le_trans (Nat.log2_self_le h0) h
      have hd : dropOf N ≤ dropOf N' := by unfold dropOf; omega
      rcases Nat.lt_or_eq_of_le hd with hd | hd
      · have h1 : half N (dropOf N) ≤ 9007199254740992 := half_le (Nat.lt_of_lt_of_le Nat.lt_log2_self (Nat.pow_le_pow_right (by omega) (by unfold dropOf; omega)))
        have h2 : 4503599627370496 ≤ half N' (dropOf N') := half_ge (Nat.le_trans (Nat.pow_le_pow_right (by omega) (by unfold dropOf at *; omega)) (Nat.log2_self_le (by omega)))
        omega
      · rw [← hd]
        have := half_mono (L := dropOf N) h
        omega
    omega
theorem rnd_le (N : Nat) : rnd N ≤ 9218868437227405312 := by
  unfold rnd
  split
  · omega
  · omega
theorem rnd_zero : rnd 0 = 0 := rfl

theorem sgB_word (s : Bool) (r : Nat) (h : r < 9223372036854775808) : sgB (Ieee.double.word s r) = s := by
  unfold Format.word sgB
  rw [d_sign]
  cases s
  · have : ¬ r / 9223372036854775808 % 2 = 1 := by omega
    simp only [Bool.false_eq_true, if_false]
    rw [Bool.eq_false_iff]
    simpa using this
  · simp only [if_true]
    rw [beq_iff_eq]
    omega
theorem rg_word (s : Bool) (r : Nat) (h : r < 9223372036854775808) : rg (Ieee.double.word s r) = r := by
  unfold Format.word rg
  rw [d_sign]
  split <;> omega
theorem sv_word (s : Bool) (r : Nat) (h : r < 9223372036854775808) : sv (Ieee.double.word s r) = sgn s (V r) := by
  unfold sv
  rw [sgB_word s r h, rg_word s r h]
theorem nan_word (s : Bool) (r : Nat) (h : r ≤ 9218868437227405312) : nanB (Ieee.double.word s r) = false := by
  rw [nan_rg, rg_word s r (by omega), decide_eq_false_iff_not]
  omega

/-- What a whole number of units is rounded to, in units. -/
def G (T : Int) : Int := sgn (decide (T < 0)) (V (rnd T.natAbs))

theorem G_mono {T T' : Int} (h : T ≤ T') : G T ≤ G T' := by
  unfold G sgn
  by_cases h1 : T < 0
  · by_cases h2 : T' < 0
    · have : V (rnd T'.natAbs) ≤ V (rnd T.natAbs) := V_le (rnd_mono (by omega))
      simp [h1, h2]; omega
    · simp [h1, h2] <;> omega
  · have h2 : ¬ T' < 0 := by omega
    have : V (rnd T.natAbs) ≤ V (rnd T'.natAbs) := V_le (rnd_mono (by omega))
    simp [h1, h2]; omega

theorem sgn_natAbs (s : Bool) (T : Int) (h : T ≠ 0 → s = decide (T < 0)) : sgn s (V (rnd T.natAbs)) = G T := by
  unfold G
  by_cases h0 : T = 0
  · subst h0
    cases s <;> simp [sgn, rnd_zero, V_zero]
  · rw [h h0]

/-- A SUM OF FINITE ONES. -/
theorem add_sv (x y : Nat) (hx : rg x < 9218868437227405312) (hy : rg y < 9218868437227405312) :
    ∃ r, Ieee.double.add x y = some r ∧ nanB r = false ∧ sv r = G (sv x + sv y) := by
  obtain ⟨m, k, e1, v1⟩ := read_num x hx
  obtain ⟨n, l, e2, v2⟩ := read_num y hy
  unfold Format.add
  rw [e1, e2]
  simp only [Datum.sum, Option.map_some, Format.write]
  generalize hb : min k l = b
  have f1 : (-1074 + (k : Int) - min (-1074 + (k : Int)) (-1074 + (l : Int))).toNat = k - b := by omega
  have f2 : (-1074 + (l : Int) - min (-1074 + (k : Int)) (-1074 + (l : Int))).toNat = l - b := by omega
  have f3 : min (-1074 + (k : Int)) (-1074 + (l : Int)) = -1074 + (b : Int) := by omega
  rw [f1, f2, f3, signed_eq, signed_eq, nearest_rnd]
  generalize hT : sgn (sgB x) (m * 2 ^ (k - b)) + sgn (sgB y) (n * 2 ^ (l - b)) = T
  have hsum : sv x + sv y = T * (2 ^ b : Nat) := by
    unfold sv
    rw [v1, v2, ← hT, Int.add_mul, ← sgn_scale, ← sgn_scale, Nat.mul_assoc, Nat.mul_assoc, ← Nat.pow_add, ← Nat.pow_add, show k - b + b = k by omega, show l - b + b = l by omega]
  have hp : (0 : Int) < (2 ^ b : Nat) := by have := Nat.two_pow_pos b; omega
  have habs : T.natAbs * 2 ^ b = (sv x + sv y).natAbs := by rw [hsum, Int.natAbs_mul, Int.natAbs_natCast]
  rw [habs]
  have hr := rnd_le (sv x + sv y).natAbs
  refine ⟨_, rfl, nan_word _ _ hr, ?_⟩
  rw [sv_word _ _ (by omega)]
  refine sgn_natAbs _ _ fun h0 => ?_
  have hT0 : T ≠ 0 := fun h => h0 (by rw [hsum, h, Int.zero_mul])
  rw [if_neg hT0, hsum]
  congr 1
  rw [eq_iff_iff]
  constructor
  · intro h; exact Int.mul_neg_of_neg_of_pos h hp
  · intro h
    rcases Int.lt_trichotomy T 0 with h1 | h1 | h1
    · exact h1
    · exact absurd h1 hT0
    · have := Int.mul_pos h1 hp; omega

end Go.Proofs.YtpdiajagdehfkaaDoor
