/- Whole numbers as floats and floats as whole numbers. Conditions: words of 64 bits; whole numbers below 2^53 where they are to come back. -/
import Derived.Test.YtpdiajagdehfkaaDoorRnd
import Derived.Test.YtpdiajagdehfkaaDoorOps
namespace Go.Proofs.YtpdiajagdehfkaaDoor
open Ieee

/-- One, in units of the least float. -/
def pw (k : Nat) : Nat := 2 ^ k
theorem pw_eq (k : Nat) : pw k = 2 ^ k := rfl
theorem pw_pos (k : Nat) : 0 < pw k := Nat.two_pow_pos k
theorem pw_split (a b k : Nat) (h : a + b = k) : pw k = pw a * pw b := by subst h; exact Nat.pow_add 2 a b
def U : Nat := pw 1074
theorem U_pos : 0 < U := pw_pos 1074
theorem U_split (a b : Nat) (h : a + b = 1074) : U = 2 ^ a * 2 ^ b := by
  rw [← Nat.pow_add, ← pw_eq, h]; rfl
theorem nearest_pw (s : Bool) (m k : Nat) : Ieee.double.nearest s m (-1074 + (k : Int)) = Ieee.double.word s (rnd (m * pw k)) := nearest_rnd s m k

theorem rnd_V (r : Nat) (h : r < 9218868437227405312) : rnd (V r) = r := by
  have hr : rg r = r := by unfold rg; omega
  have hs : sgB r = false := (sgB_false (by omega)).2 (by omega)
  obtain ⟨m, k, e, v⟩ := read_num r (by rw [hr]; exact h)
  have h1 := nearest_read r (by omega) _ m _ e 0
  rw [Nat.pow_zero, Nat.mul_one, show (-1074 + (k : Int) - (0 : Nat)) = -1074 + (k : Int) by omega, nearest_rnd, hs] at h1
  rw [hr] at v
  rw [v]
  simpa [Format.word] using h1

/-- Each whole number below 2^53 is a float. -/
theorem V_whole (n : Nat) (h : n < 9007199254740992) : ∃ r, r < 9218868437227405312 ∧ V r = n * U := by
  by_cases h0 : n = 0
  · subst h0
    exact ⟨0, by omega, by rw [V_zero, Nat.zero_mul]⟩
  · have h1 := Nat.log2_self_le h0
    have h2 : n < 2 ^ (n.log2 + 1) := Nat.lt_log2_self
    have h3 : n.log2 ≤ 52 := by
      have := (Nat.log2_lt h0 (k := 53)).2 (by omega)
      omega
    generalize n.log2 = l at *
    have e1 : 2 ^ l * 2 ^ (52 - l) = 4503599627370496 := by rw [← Nat.pow_add, show l + (52 - l) = 52 by omega]
    have e2 : 2 ^ (l + 1) * 2 ^ (52 - l) = 9007199254740992 := by rw [← Nat.pow_add, show l + 1 + (52 - l) = 53 by omega]
    have hp := Nat.two_pow_pos (52 - l)
    have g1 : 4503599627370496 ≤ n * 2 ^ (52 - l) := by rw [← e1]; exact Nat.mul_le_mul_right _ h1
    have g2 : n * 2 ^ (52 - l) < 9007199254740992 := by rw [← e2]; exact (Nat.mul_lt_mul_right hp).2 h2
    generalize hf : n * 2 ^ (52 - l) = f at *
    refine ⟨(1022 + l) * 4503599627370496 + f, by omega, ?_⟩
    unfold V
    rw [U_split (52 - l) (1022 + l) (by omega), if_neg (by omega), show ((1022 + l) * 4503599627370496 + f) / 4503599627370496 - 1 = 1022 + l by omega, show 4503599627370496 + ((1022 + l) * 4503599627370496 + f) % 4503599627370496 = f by omega, ← hf, Nat.mul_assoc]

theorem V_rnd_whole (n : Nat) (h : n < 9007199254740992) : V (rnd (n * U)) = n * U := by
  obtain ⟨r, h1, h2⟩ := V_whole n h
  rw [← h2, rnd_V r h1]

/-- 'float64(n)', as a word. -/
def ofI (n : Int) : Nat := Ieee.double.word (decide (n < 0)) (rnd (n.natAbs * U))
theorem ofI_eq (n : Int) : floatOfInt .f64 n = ofI n := by
  show Ieee.double.nearest (decide (n < 0)) n.natAbs 0 = _
  have := nearest_pw (decide (n < 0)) n.natAbs 1074
  rw [show (-1074 + ((1074 : Nat) : Int)) = 0 by omega] at this
  exact this
theorem ofI_lt (n : Int) : ofI n < 18446744073709551616 := by
  have := rnd_le (n.natAbs * U)
  unfold ofI Format.word
  rw [d_sign]
  split <;> omega
theorem ofI_nan (n : Int) : nanB (ofI n) = false := nan_word _ _ (rnd_le _)
theorem ofI_sv (n : Int) : sv (ofI n) = sgn (decide (n < 0)) (V (rnd (n.natAbs * U))) := sv_word _ _ (by have := rnd_le (n.natAbs * U); omega)

/-- A float cut towards zero. -/
def tiVal (a : Nat) : Int := sgn (sgB a) (V (rg a) / U)

theorem cut_zero (s : Bool) (n d : Nat) : Toward.zero.cut s n d = n / 2 ^ d := by
  unfold Toward.cut
  simp only [Bool.toNat_false, Nat.add_zero, Nat.one_shiftLeft]
  rcases Nat.le_total d (n.log2 + 2) with h | h
  · rw [Nat.min_eq_left h]
  · rw [Nat.min_eq_right h]
    have h1 : n < 2 ^ (n.log2 + 2) := Nat.lt_of_lt_of_le Nat.lt_log2_self (Nat.pow_le_pow_right (by omega) (by omega))
    have h2 : n < 2 ^ d := Nat.lt_of_lt_of_le h1 (Nat.pow_le_pow_right (by omega) h)
    rw [Nat.div_eq_of_lt h1, Nat.div_eq_of_lt h2]

theorem integral_num (s : Bool) (m k : Nat) : Datum.integral .zero (.number s m (-1074 + (k : Int))) = .number s (m * 2 ^ k / U) 0 := by
  simp only [Datum.integral, cut_zero, Nat.shiftLeft_eq]
  congr 1
  rcases Nat.le_total k 1074 with h | h
  · have e1 : (-1074 + (k : Int)).toNat = 0 := by omega
    have e2 : (-(-1074 + (k : Int))).toNat = 1074 - k := by omega
    rw [e1, e2, Nat.pow_zero, Nat.mul_one]
    rw [U_split (1074 - k) k (by omega), Nat.mul_div_mul_right _ _ (Nat.two_pow_pos k)]
  · have e1 : (-1074 + (k : Int)).toNat = k - 1074 := by omega
    have e2 : (-(-1074 + (k : Int))).toNat = 0 := by omega
    rw [e1, e2, Nat.pow_zero, Nat.div_one]
    rw [show 2 ^ k = 2 ^ (k - 1074) * U from pw_split (k - 1074) 1074 k (by omega), ← Nat.mul_assoc, Nat.mul_div_cancel _ U_pos]

theorem toInt_fin (a : Nat) (h : rg a < 9218868437227405312) : (Ieee.double.read a).toInt .zero = some (tiVal a) := by
  obtain ⟨m, k, e, v⟩ := read_num a h
  unfold Datum.toInt tiVal
  rw [e, integral_num, v]
  simp only [signed_eq, Nat.pow_zero, Nat.mul_one]

def lowB (a : Nat) : Bool := Ieee.double.order a 14114281232179134464 == some .lt
def highB (a : Nat) : Bool := Ieee.double.order a 4890909195324358656 == some .gt || Ieee.double.order a 4890909195324358656 == some .eq
/-- Is there such a whole number of 64 bits? -/
def tiOk (a : Nat) : Bool := !nanB a && !lowB a && !highB a

theorem V_end : V 4890909195324358656 = 9223372036854775808 * U := by decide +kernel
theorem sv_high : sv 4890909195324358656 = ((9223372036854775808 * U : Nat) : Int) := by
  rw [← V_end]; rfl
theorem sv_low : sv 14114281232179134464 = -((9223372036854775808 * U : Nat) : Int) := by
  rw [← V_end]; rfl
theorem low_iff (a : Nat) (h : nanB a = false) : lowB a = decide (sv a < -((9223372036854775808 * U : Nat) : Int)) := by
  unfold lowB
  rw [order_sv a _ h (by decide), sv_low]
  generalize (9223372036854775808 * U : Nat) = B
  rcases Int.lt_trichotomy (sv a) (-(B : Int)) with h | h | h
  · simp [compare_lt h, h]
  · simp [h]
  · rw [compare_gt h, decide_eq_false (by omega)]; rfl
theorem high_iff (a : Nat) (h : nanB a = false) : highB a = decide (((9223372036854775808 * U : Nat) : Int) ≤ sv a) := by
  unfold highB
  rw [order_sv a _ h (by decide), sv_high]
  generalize (9223372036854775808 * U : Nat) = B
  rcases Int.lt_trichotomy (sv a) (B : Int) with h | h | h
  · rw [compare_lt h, decide_eq_false (by omega)]; rfl
  · simp [h]
  · rw [compare_gt h, decide_eq_true (by omega)]; rfl

theorem V_inf_big : 9223372036854775808 * U < V 9218868437227405312 := by
  rw [← V_end]; exact V_lt (by omega)

theorem ti_fin (a : Nat) (h : tiOk a = true) : rg a < 9218868437227405312 ∧ nanB a = false ∧ -((9223372036854775808 * U : Nat) : Int) ≤ sv a ∧ sv a < ((9223372036854775808 * U : Nat) : Int) := by
  unfold tiOk at h
  simp only [Bool.and_eq_true, Bool.not_eq_true'] at h
  obtain ⟨⟨hn, hl⟩, hh⟩ := h
  rw [low_iff a hn, decide_eq_false_iff_not] at hl
  rw [high_iff a hn, decide_eq_false_iff_not] at hh
  have hb := V_inf_big
  generalize (9223372036854775808 * U : Nat) = B at *
  refine ⟨?_, hn, by omega, by omega⟩
  rcases three a with ⟨h1, _⟩ | ⟨h1, _⟩ | ⟨_, h1⟩
  · exact h1
  · exfalso
    unfold sv sgn at hl hh
    rw [h1] at hl hh
    cases hs : sgB a <;> simp only [hs, Bool.false_eq_true, if_false, if_true] at hl hh <;> omega
  · rw [h1] at hn; cases hn

theorem ti_range (a : Nat) (h : tiOk a = true) : -9223372036854775808 ≤ tiVal a ∧ tiVal a ≤ 9223372036854775807 := by
  obtain ⟨_, _, h1, h2⟩ := ti_fin a h
  unfold tiVal
  unfold sv at h1 h2
  have hp := U_pos
  generalize V (rg a) = v at *
  generalize U = P at *
  cases hs : sgB a
  · rw [hs] at h1 h2
    simp only [sgn, Bool.false_eq_true, if_false] at h1 h2 ⊢
    have : v / P < 9223372036854775808 := by
      rw [Nat.div_lt_iff_lt_mul hp]; omega
    generalize v / P = q at *
    omega
  · rw [hs] at h1 h2
    simp only [sgn, if_true] at h1 h2 ⊢
    have : v / P ≤ 9223372036854775808 := by
      rw [Nat.div_le_iff_le_mul_add_pred hp, Nat.mul_comm]; omega
    generalize v / P = q at *
    omega

theorem ti_val (a : Nat) (h : tiOk a = true) : floatToIntVal .f64 a .i64 = some (tiVal a) := by
  obtain ⟨h1, _, _, _⟩ := ti_fin a h
  have hr := ti_range a h
  unfold floatToIntVal
  have e : (FloatKind.f64.decode a).toInt .zero = some (tiVal a) := toInt_fin a h1
  rw [e]
  have m1 : IntKind.i64.min = -9223372036854775808 := by decide
  have m2 : IntKind.i64.max = 9223372036854775807 := by decide
  have : IntKind.i64.min ≤ tiVal a ∧ tiVal a ≤ IntKind.i64.max := by
    rw [m1, m2]
    exact hr
  simp only [this, and_self, if_true]

theorem ofI_ok (n : Int) (h : n.natAbs < 9007199254740992) : tiOk (ofI n) = true ∧ tiVal (ofI n) = n := by
  have hn := ofI_nan n
  have hv := V_rnd_whole n.natAbs h
  have hs := ofI_sv n
  rw [hv, sgn_scale] at hs
  have hr : rnd (n.natAbs * U) < 9223372036854775808 := by have := rnd_le (n.natAbs * U); omega
  have hp := U_pos
  have hsn : sgn (decide (n < 0)) n.natAbs = n := by unfold sgn; by_cases h0 : n < 0 <;> simp [h0] <;> omega
  rw [hsn] at hs
  constructor
  · unfold tiOk
    rw [hn, low_iff _ hn, high_iff _ hn, hs]
    have e : ((9223372036854775808 * U : Nat) : Int) = 9223372036854775808 * (U : Int) := by rw [Int.natCast_mul]; rfl
    rw [e]
    generalize (U : Int) = P at *
    have hP : 0 < P := by omega
    have l1 : ¬ n * P < -(9223372036854775808 * P) := by
      rw [← Int.neg_mul]
      intro hh
      have := Int.lt_of_mul_lt_mul_right hh (by omega)
      omega
    have l2 : ¬ 9223372036854775808 * P ≤ n * P := by
      intro hh
      have := Int.le_of_mul_le_mul_right hh hP
      omega
    simp [l1, l2]
  · unfold tiVal ofI
    rw [sgB_word _ _ hr, rg_word _ _ hr, hv, Nat.mul_div_cancel _ hp, hsn]

end Go.Proofs.YtpdiajagdehfkaaDoor
