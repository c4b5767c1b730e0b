/- W5 of stage 1: floats. -/
import Derived.Test.YtdmgaaaomleojaaGreatDoorFlVal
namespace Go.Proofs.YtdmgaaaomleojaaGreatDoor.Fl
open Go.RowKit Ieee
theorem sgB_true {a : Nat} (ha : a < 18446744073709551616) : sgB a = true ↔ 9223372036854775808 ≤ a := by
  unfold sgB
  rw [beq_iff_eq]
  omega
theorem sgB_false {a : Nat} (ha : a < 18446744073709551616) : sgB a = false ↔ a < 9223372036854775808 := by
  rw [Bool.eq_false_iff, Ne, sgB_true ha]
  omega
theorem gt_false (o : Ordering) (h : o ≠ .gt) : (some o == some Ordering.gt) = false := by cases o <;> simp_all
/-- A word is greater than the greatest finite one just where it is the greater infinity. -/
theorem gt_max (a : Nat) (ha : a < 18446744073709551616) : (Ieee.double.order a 9218868437227405311 == some .gt) = decide (a = 9218868437227405312) := by
  cases hn : nanB a
  · rw [order_sv a _ hn (by decide)]
    rw [nan_rg, decide_eq_false_iff_not] at hn
    have e : sv 9218868437227405311 = V 9218868437227405311 := rfl
    rw [e]
    by_cases hi : a = 9218868437227405312
    · subst hi
      rw [decide_eq_true rfl, show sv 9218868437227405312 = V 9218868437227405312 from rfl, compare_gt]
      · rfl
      · have := V_lt (show 9218868437227405311 < 9218868437227405312 by omega)
        omega
    · rw [decide_eq_false hi]
      refine gt_false _ ?_
      have hle : sv a ≤ V 9218868437227405311 := by
        unfold sv sgn
        cases hs : sgB a
        · have h0 := (sgB_false ha).1 hs
          have : V (rg a) ≤ V 9218868437227405311 := V_le (by unfold rg at *; omega)
          simp only [Bool.false_eq_true, if_false]; omega
        · simp only [if_true]; omega
      rcases Int.lt_or_eq_of_le hle with h1 | h1
      · rw [compare_lt h1]; decide
      · rw [compare_eq h1]; decide
  · rw [(order_nan a _).2 (Or.inl hn)]
    rw [nan_rg, decide_eq_true_eq] at hn
    rw [decide_eq_false (by unfold rg at hn; omega)]
    rfl
/-- The word with its sign turned. -/
def flipN (a : Nat) : Nat := a ^^^ 9223372036854775808
theorem flipN_eq (a : Nat) (ha : a < 18446744073709551616) : flipN a = if a < 9223372036854775808 then a + 9223372036854775808 else a - 9223372036854775808 := by
  unfold flipN
  split
  · rename_i h
    have h1 : a ^^^ 9223372036854775808 = a ||| 9223372036854775808 := by
      apply Nat.eq_of_testBit_eq
      intro i
      rw [Nat.testBit_xor, Nat.testBit_or, show 9223372036854775808 = 2 ^ 63 from rfl, Nat.testBit_two_pow]
      by_cases hi : 63 = i
      · subst hi
        rw [Nat.testBit_lt_two_pow (show a < 2 ^ 63 from h)]; simp
      · simp [hi]
    rw [h1, Nat.or_comm, nat_join 63 9223372036854775808 a (by decide) h, Nat.add_comm]
  · rename_i h
    have hb : a = (a - 9223372036854775808) ||| 9223372036854775808 := by
      rw [Nat.or_comm, nat_join 63 9223372036854775808 (a - 9223372036854775808) (by decide) (by omega)]; omega
    have hx : a - 9223372036854775808 < 2 ^ 63 := by omega
    generalize a - 9223372036854775808 = b at *
    rw [hb]
    apply Nat.eq_of_testBit_eq
    intro i
    rw [Nat.testBit_xor, Nat.testBit_or, show 9223372036854775808 = 2 ^ 63 from rfl, Nat.testBit_two_pow]
    by_cases hi : 63 = i
    · subst hi
      rw [Nat.testBit_lt_two_pow hx]; simp
    · simp [hi]
theorem neg_run (a : Nat) : Op.unary .neg (.float .f64 a) = pure (.float .f64 (flipN a)) := rfl
set_option maxRecDepth 100000 in
set_option maxHeartbeats 400000 in
theorem isinf_one (a : Nat) (ha : a < 18446744073709551616) (w : World) :
    Calls Tryz.prog 56 #[.float .f64 a, .int .i64 1] w fun e w' => e = .returned (.bool (decide (a = 9218868437227405312))) ∧ w = w' := by
  have HB := Lib.hid (gt_max a ha)
  refine Calls.mono (R := fun e w' => e = .returned (.bool (FloatKind.f64.format.order a 9218868437227405311 == some .gt)) ∧ w = w') ?_ fun e w' ⟨he, hw⟩ => ⟨by rw [he, ← HB.out]; rfl, hw⟩
  go_enter Tryz.func56, Tryz.ntmps56
  go_wp2
  go_ret
  exact ⟨rfl, rfl⟩
set_option maxRecDepth 100000 in
set_option maxHeartbeats 400000 in
theorem isinf_minus (a : Nat) (ha : a < 18446744073709551616) (w : World) :
    Calls Tryz.prog 56 #[.float .f64 a, .int .i64 (-1)] w fun e w' => e = .returned (.bool (decide (a = 18442240474082181120))) ∧ w = w' := by
  have hf : flipN a < 18446744073709551616 := by rw [flipN_eq a ha]; split <;> omega
  have hd : decide (flipN a = 9218868437227405312) = decide (a = 18442240474082181120) := by
    rw [flipN_eq a ha]; congr 1; rw [eq_iff_iff]; split <;> omega
  have HB := Lib.hid ((gt_max (flipN a) hf).trans hd)
  clear hd hf
  have hneg := neg_run a
  refine Calls.mono (R := fun e w' => e = .returned (.bool (FloatKind.f64.format.order (flipN a) 9218868437227405311 == some .gt)) ∧ w = w') ?_ fun e w' ⟨he, hw⟩ => ⟨by rw [he, ← HB.out]; rfl, hw⟩
  go_enter Tryz.func56, Tryz.ntmps56
  go_wp2
  go_ret
  exact ⟨rfl, rfl⟩
theorem wrap_neg (a : Nat) (ha : a < 18446744073709551616) : decide (wrap64 (a : Int) < 0) = sgB a := by
  cases h : sgB a
  · have := (sgB_false ha).1 h
    rw [decide_eq_false_iff_not]; unfold wrap64; omega
  · have := (sgB_true ha).1 h
    rw [decide_eq_true_iff]; unfold wrap64; omega
set_option maxRecDepth 100000 in
set_option maxHeartbeats 400000 in
theorem signbit_any (a : Nat) (ha : a < 18446744073709551616) (w : World) :
    Calls Tryz.prog 57 #[.float .f64 a] w fun e w' => e = .returned (.bool (sgB a)) ∧ w = w' := by
  have HB := Lib.hid (wrap_neg a ha)
  clear ha
  have tb := to_bits
  refine Calls.mono (R := fun e w' => e = .returned (.bool (decide (wrap64 (a : Int) < 0))) ∧ w = w') ?_ fun e w' ⟨he, hw⟩ => ⟨by rw [he, HB.out], hw⟩
  go_enter Tryz.func57, Tryz.ntmps57
  go_wp2
  go_ret
  exact ⟨rfl, rfl⟩
end Go.Proofs.YtdmgaaaomleojaaGreatDoor.Fl
