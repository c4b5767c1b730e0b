/- The document's own text of a float is the program's, put together. Conditions: the two tables as start-up lays them; 64 bits. -/
import Derived.Test.YtpdiajagdehfkaaDoorR2
namespace Go.Proofs.YtpdiajagdehfkaaDoor
open Go.RowKit Ieee

theorem sign_test (a : Nat) (ha : a < 18446744073709551616) : ((a : Int) / 9223372036854775808 == 1) = sgB a := by
  cases h : sgB a
  · have := (sgB_false ha).1 h
    rw [Bool.eq_false_iff, Ne, beq_iff_eq]; omega
  · have := (sgB_true ha).1 h
    rw [beq_iff_eq]; omega

theorem bool_list (sg : Bool) : (if sg = true then #[45] else #[] : Array UInt8) = (if sg = true then [45] else [] : List UInt8).toArray := by cases sg <;> rfl

/-- gristmillref1.FloText answers flo.Text's text. -/
theorem rtext_any (a : Nat) (ha : a < 18446744073709551616) (w : World) (ht : Tabs w) :
    Calls Tryd.prog 25 #[.int .u64 a] w (Grew (.string ⟨(textL a).toArray⟩) w) := by
  have h1 := mask52 a ha
  have h2 := mask11 a ha
  have hs := sign_test a ha
  rcases textL_cases a ha with ⟨hn, e⟩ | ⟨hi, e⟩ | ⟨hi, e⟩ | ⟨hf, hn, e⟩
  · rw [e]
    refine rtext_nan a w fun w => ?_
    have := rcanon_any a ha w
    rw [canon_of_nan hn] at this
    exact this
  · subst hi
    rw [e]
    have hc := fun w => rcanon_any 9218868437227405312 ha w
    exact rtext_inf 9218868437227405312 false w (fun w => by have := hc w; rwa [show canonN 9218868437227405312 = 9218868437227405312 by decide] at this) (by decide) (by decide) h2
  · subst hi
    rw [e]
    have hc := fun w => rcanon_any 18442240474082181120 ha w
    exact rtext_inf 18442240474082181120 true w (fun w => by have := hc w; rwa [show canonN 18442240474082181120 = 18442240474082181120 by decide] at this) (by decide) (by decide) h2
  · rw [e]
    have hc : ∀ w, Calls Tryd.prog 21 #[.int .u64 a] w fun e w' => e = .returned (.int .u64 a) ∧ w = w' := fun w => by
      have := rcanon_any a ha w
      rwa [canon_of_num hn] at this
    have hnn : ((a : Int) == 9221120237041090560) = false := by
      have := canon_is_nan a
      rwa [canon_of_num hn, hn] at this
    by_cases h0 : magOf a = 0
    · have hE : a / 4503599627370496 % 2048 = 0 ∧ a % 4503599627370496 = 0 := by
        unfold magOf at h0
        split at h0
        · rename_i g; exact ⟨g, h0⟩
        · omega
      rw [hE.1] at h2
      rw [hE.2] at h1
      have := rtext_zero a (sgB a) w hc hnn hs h2 h1
      have e2 : ((⟨if sgB a = true then #[45] else #[]⟩ : ByteArray) ++ ⟨#[48, 112, 48]⟩) = ⟨(finL a).toArray⟩ := by
        unfold finL oddM oddE
        rw [if_pos h0, if_pos h0, Lib.decDigits_one (i := 0) (by omega), show Lib.itoa 0 = Lib.decDigits 0 from Lib.itoa_nonneg 0, Lib.decDigits_one (i := 0) (by omega)]
        cases sgB a <;> decide
      rw [e2] at this
      exact this
    · have hfin : a / 4503599627370496 % 2048 < 2047 := by unfold rg at hf; omega
      have ho : oddM a % 2 = 1 := by
        rcases odd_odd a with ⟨g, _⟩ | g
        · exfalso
          obtain ⟨k, k1, k2⟩ := val_odd a hf
          rw [g, Nat.zero_mul, ← V_zero] at k2
          have hr := V_inj k2
          apply h0
          unfold rg at hr
          unfold magOf
          rw [if_pos (by omega)]; omega
        · exact g
      have hM := oddM_lt a
      have hE := oddE_bd a
      have hsplit : oddM a * 2 ^ (Lib.ctz 64 (magOf a)) = magOf a ∧ oddE a = expOf a + (Lib.ctz 64 (magOf a) : Nat) := by
        unfold oddM oddE
        rw [if_neg h0, if_neg h0]
        have hlt : magOf a < 2 ^ 64 := Nat.lt_trans (magOf_lt a) (by decide)
        obtain ⟨q, hq, hz⟩ := Lib.ctzFrom_spec 64 (magOf a) (by omega) hlt
        have hcz : Lib.ctz 64 (magOf a) = Lib.ctzFrom 64 (magOf a) := by unfold Lib.ctz; rw [if_neg h0]
        rw [hcz]
        refine ⟨?_, rfl⟩
        exact Nat.div_mul_cancel ⟨2 * q + 1, hq⟩
      have := rtext_fin a _ _ (magOf a) (oddM a) (expOf a) (oddE a) (sgB a) ⟨(Lib.decDigits (oddM a)).toArray⟩ ⟨(Lib.itoa (oddE a)).toArray⟩ w
        (by rw [size_of_list, Lib.decDigits_length]; have := nDigits_le (oddM a) (by omega); omega)
        (by rw [size_of_list]; have := itoa_len (oddE a) (by omega) (by omega); omega)
        hc hnn hs h2 h1 ?_ h0 (magOf_lt a) ?_ (fmt_any (oddM a) (by omega) w ht.pow) (fun w1 hb => itoa_any (oddE a) (by omega) (by omega) w1 (ht.below hb).pow)
      · rw [bool_list, four_join] at this
        exact this
      · unfold magOf expOf
        by_cases hE0 : a / 4503599627370496 % 2048 = 0
        · left
          exact ⟨hE0, by rw [if_pos hE0], by rw [if_pos hE0]⟩
        · right
          refine ⟨hE0, hfin, ?_, by rw [if_neg hE0]⟩
          rw [if_neg hE0]
          exact or52 _ (by omega)
      · intro mk j hmk hj
        obtain ⟨g1, g2⟩ := odd_unique mk (oddM a) j _ hmk ho (hj.trans hsplit.1.symm)
        exact ⟨g1, by rw [hsplit.2, g2]⟩

end Go.Proofs.YtpdiajagdehfkaaDoor
