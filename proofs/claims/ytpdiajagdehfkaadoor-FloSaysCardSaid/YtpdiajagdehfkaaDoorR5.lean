/- The document's own whole number of a float is the program's, put together. Conditions: 64 bits. -/
import Derived.Test.YtpdiajagdehfkaaDoorR4
namespace Go.Proofs.YtpdiajagdehfkaaDoor
open Go.RowKit Ieee

theorem V_norm (a : Nat) (h : a / 4503599627370496 % 2048 ≠ 0) : V (rg a) = (a % 4503599627370496 + 4503599627370496) * pw (a / 4503599627370496 % 2048 - 1) := by
  have h1 := V_at (a / 4503599627370496 % 2048 - 1) (a % 4503599627370496 + 4503599627370496) (by omega) (by omega)
  have e : rg a = (a / 4503599627370496 % 2048 - 1) * 4503599627370496 + (a % 4503599627370496 + 4503599627370496) := by unfold rg; omega
  rw [e, h1]

theorem V_small (r : Nat) (h : r < 1023 * 4503599627370496) : V r < U := by
  have h5 : V r < V (1022 * 4503599627370496 + 4503599627370496) := V_lt (by omega)
  rw [V_at 1022 4503599627370496 (by omega) (by omega), ← pw52] at h5
  obtain ⟨T, hT⟩ : ∃ T : Nat, T = 1074 := ⟨_, rfl⟩
  have e : U = pw T := by rw [hT]; rfl
  rw [e, pw_split 52 1022 T (by omega)]
  exact h5

theorem div_left (f E : Nat) (h : 1075 ≤ E) : f * pw (E - 1) / U = f * pw (E - 1023 - 52) := by
  obtain ⟨T, hT⟩ : ∃ T : Nat, T = 1074 := ⟨_, rfl⟩
  have e : U = pw T := by rw [hT]; rfl
  rw [e, pw_split (E - 1023 - 52) T (E - 1) (by omega), ← Nat.mul_assoc]
  exact Nat.mul_div_cancel _ (pw_pos T)
theorem div_right (f E : Nat) (h : 1023 ≤ E) (h2 : E < 1075) : f * pw (E - 1) / U = f / pw (1075 - E) := by
  obtain ⟨T, hT⟩ : ∃ T : Nat, T = 1074 := ⟨_, rfl⟩
  have e : U = pw T := by rw [hT]; rfl
  rw [e, pw_split (1075 - E) (E - 1) T (by omega), Nat.mul_div_mul_right _ _ (pw_pos _)]
theorem mul_small (f j : Nat) (hf : f < 9007199254740992) (hj : j ≤ 10) : f * pw j < 9223372036854775808 := by
  have h10 : pw j ≤ pw 10 := Nat.pow_le_pow_right (by omega) hj
  have e10 : pw 10 = 1024 := by decide
  rw [e10] at h10
  have := Nat.mul_le_mul_left f h10
  omega

theorem wrap_small (N : Nat) (h : N < 9223372036854775808) (sg : Bool) : (if sg then wrap64 (-wrap64 (N : Int)) else wrap64 (N : Int)) = sgn sg N := by
  unfold wrap64 sgn
  cases sg <;> simp only [Bool.false_eq_true, if_false, if_true] <;> omega

/-- gristmillref1.ToInt answers as flo.ToInt does. -/
theorem rti_any (a : Nat) (ha : a < 18446744073709551616) (w : World) :
    Calls Tryd.prog 16 #[.int .u64 a] w fun e w' => e = .returned (.tuple #[.int .i64 (if tiOk a then tiVal a else 0), .bool (tiOk a)]) ∧ w = w' := by
  have h1 := mask52 a ha
  have h2 := mask11 a ha
  have h3 := or52 (a % 4503599627370496) (by omega)
  have hs : ((a : Int) / 9223372036854775808 == 1) = sgB a := by
    cases h : sgB a
    · have := (sgB_false ha).1 h
      rw [Bool.eq_false_iff, Ne, beq_iff_eq]; omega
    · have := (sgB_true ha).1 h
      rw [beq_iff_eq]; omega
  have hE8 : a / 4503599627370496 % 2048 < 2048 := Nat.mod_lt _ (by omega)
  have hrg : rg a = a / 4503599627370496 % 2048 * 4503599627370496 + a % 4503599627370496 := by unfold rg; omega
  have hvend : V 4890909195324358656 = 9223372036854775808 * U := V_end
  by_cases c2 : 1086 ≤ a / 4503599627370496 % 2048
  · by_cases hc : a = 14114281232179134464
    · subst hc
      have e1 : tiOk 14114281232179134464 = true := by
        have hn : nanB 14114281232179134464 = false := by decide
        unfold tiOk
        rw [hn, low_iff _ hn, high_iff _ hn, sv_low, decide_eq_false (by omega), decide_eq_false (by have := U_pos; omega)]
        rfl
      have e2 : tiVal 14114281232179134464 = -9223372036854775808 := by
        have e3 : rg 14114281232179134464 = 4890909195324358656 := by decide
        have e4 : sgB 14114281232179134464 = true := by decide
        unfold tiVal
        rw [e3, e4, hvend, Nat.mul_div_cancel _ U_pos]
        rfl
      rw [e1, e2]
      exact rti_least _ _ _ _ _ w hs h2 h1 h3 c2 hE8 (by decide)
    · have e1 : tiOk a = false := by
        unfold tiOk
        cases hn : nanB a
        · rw [low_iff a hn, high_iff a hn]
          have hge : V 4890909195324358656 ≤ V (rg a) := V_le (by omega)
          rw [hvend] at hge
          unfold sv sgn
          cases hsg : sgB a
          · simp only [Bool.false_eq_true, if_false]
            rw [decide_eq_true (by omega : ((9223372036854775808 * U : Nat) : Int) ≤ (V (rg a) : Int))]
            simp
          · have hlt : V 4890909195324358656 < V (rg a) := V_lt (by
              have := (sgB_true ha).1 hsg
              unfold rg at hrg ⊢
              omega)
            rw [hvend] at hlt
            simp only [if_true]
            rw [decide_eq_true (by omega : -(V (rg a) : Int) < -((9223372036854775808 * U : Nat) : Int))]
            simp
        · rfl
      rw [e1]
      exact rti_great a _ _ _ _ w hs h2 h1 h3 c2 hE8 (by simp; omega)
  · have hn : nanB a = false := by rw [nan_rg, decide_eq_false_iff_not, hrg]; omega
    have hlt : V (rg a) < V 4890909195324358656 := V_lt (by rw [hrg]; omega)
    rw [hvend] at hlt
    have e1 : tiOk a = true := by
      unfold tiOk
      rw [hn, low_iff a hn, high_iff a hn]
      have g1 : ¬ sv a < -((9223372036854775808 * U : Nat) : Int) := by
        unfold sv sgn; cases sgB a <;> simp only [Bool.false_eq_true, if_false, if_true] <;> omega
      have g2 : ¬ ((9223372036854775808 * U : Nat) : Int) ≤ sv a := by
        unfold sv sgn; cases sgB a <;> simp only [Bool.false_eq_true, if_false, if_true] <;> omega
      rw [decide_eq_false g1, decide_eq_false g2]
      rfl
    rw [e1]
    have hf1 : a % 4503599627370496 + 4503599627370496 < 9007199254740992 := by omega
    by_cases c1 : a / 4503599627370496 % 2048 < 1023
    · have e2 : tiVal a = 0 := by
        unfold tiVal
        rw [Nat.div_eq_of_lt (V_small (rg a) (by rw [hrg]; omega))]
        unfold sgn; split <;> rfl
      simp only [if_true]
      rw [e2]
      exact rti_less a _ _ _ _ w hs h2 h1 h3 c1
    · have hV := V_norm a (by omega)
      simp only [if_true]
      by_cases c3 : 1075 ≤ a / 4503599627370496 % 2048
      · refine rti_left a _ _ _ _ _ w hs h2 h1 h3 c3 c2 ?_
        have hb := mul_small (a % 4503599627370496 + 4503599627370496) (a / 4503599627370496 % 2048 - 1023 - 52) hf1 (by omega)
        have hcast : ((a % 4503599627370496 + 4503599627370496 : Nat) : Int) * 2 ^ (a / 4503599627370496 % 2048 - 1023 - 52) = (((a % 4503599627370496 + 4503599627370496) * pw (a / 4503599627370496 % 2048 - 1023 - 52) : Nat) : Int) := by
          rw [Int.natCast_mul, pw_eq, Int.natCast_pow]; rfl
        unfold tiVal
        rw [hV, div_left _ _ c3, hcast, IntKind.wrap_u64, ← wrap_small _ hb, Int.emod_eq_of_lt (by omega) (by omega)]
      · refine rti_right a _ _ _ _ _ w hs h2 h1 h3 (by omega) (by omega) ?_
        have e4 : (-(((a / 4503599627370496 % 2048 : Nat) : Int) - 1023 - 52)).toNat = 1075 - a / 4503599627370496 % 2048 := by omega
        have hb : (a % 4503599627370496 + 4503599627370496) / pw (1075 - a / 4503599627370496 % 2048) < 9223372036854775808 := Nat.lt_of_le_of_lt (Nat.div_le_self _ _) (by omega)
        have hcast : ((a % 4503599627370496 + 4503599627370496 : Nat) : Int) / 2 ^ (1075 - a / 4503599627370496 % 2048) = (((a % 4503599627370496 + 4503599627370496) / pw (1075 - a / 4503599627370496 % 2048) : Nat) : Int) := by
          rw [Int.natCast_ediv, pw_eq, Int.natCast_pow]; rfl
        unfold tiVal
        rw [hV, div_right _ _ (by omega) (by omega), e4, hcast, wrap_small _ hb]

end Go.Proofs.YtpdiajagdehfkaaDoor
