/- Ld of stage 1: floats. -/
import Derived.Test.YtdmgaaaomleojaaGreatDoorFlW15
namespace Go.Proofs.YtdmgaaaomleojaaGreatDoor.Fl
open Go.RowKit Ieee
theorem cut_even' (s : Bool) (n d : Nat) : Toward.even.cut s n d = half n d := by
  rcases Nat.le_total d (n.log2 + 2) with h | h
  · exact cut_even s n d h
  · unfold Toward.cut half
    have h1 : n < 2 ^ (n.log2 + 1) := Nat.lt_log2_self
    have h2 : 2 ^ (n.log2 + 2) = 2 * 2 ^ (n.log2 + 1) := by rw [Nat.pow_succ, Nat.mul_comm]
    have h3 : 2 ^ (n.log2 + 2) ≤ 2 ^ d := Nat.pow_le_pow_right (by omega) h
    rw [Nat.min_eq_right h, Nat.one_shiftLeft]
    generalize 2 ^ (n.log2 + 2) = g at *
    generalize 2 ^ d = g' at *
    have e1 : n / g = 0 := Nat.div_eq_of_lt (by omega)
    have e2 : n / g' = 0 := Nat.div_eq_of_lt (by omega)
    have e3 : n % g = n := Nat.mod_eq_of_lt (by omega)
    have e4 : n % g' = n := Nat.mod_eq_of_lt (by omega)
    simp only [e1, e2, e3, e4]
    have c1 : ¬ g < 2 * n := by omega
    have c2 : ¬ g' < 2 * n := by omega
    simp [c1, c2]
/-- The word nearest to a number does not hang on how its value is parted. -/
theorem nearest_scale (s : Bool) (m c : Nat) (p : Int) : Ieee.double.nearest s (m * 2 ^ c) (p - c) = Ieee.double.nearest s m p := by
  unfold Format.nearest
  by_cases hm : m = 0
  · subst hm; rw [if_pos (by simp), if_pos rfl]
  · have hm0 : 0 < m := by omega
    have hp := Nat.two_pow_pos c
    have hne : m * 2 ^ c ≠ 0 := by have := Nat.mul_pos hm0 hp; omega
    rw [if_neg hm, if_neg hne]
    simp only [d_least, d_binade, d_inf]
    rw [log2_mul m c hm0]
    generalize hL : max (p + (m.log2 : Int) - (Ieee.double.fractionBits : Int)) (-1074) = L
    have e1 : max (p - (c : Int) + ((m.log2 + c : Nat) : Int) - (Ieee.double.fractionBits : Int)) (-1074) = L := by omega
    rw [e1]
    congr 3
    rw [cut_even', cut_even']
    by_cases h1 : L ≤ p - c
    · have f1 : (p - (c : Int) - L).toNat + c = (p - L).toNat := by omega
      have f2 : (L - (p - (c : Int))).toNat = 0 := by omega
      have f3 : (L - p).toNat = 0 := by omega
      rw [f2, f3, half_zero, half_zero, Nat.shiftLeft_eq, Nat.shiftLeft_eq, Nat.mul_assoc, ← Nat.pow_add, Nat.add_comm c, f1]
    · have f1 : (p - (c : Int) - L).toNat = 0 := by omega
      rw [f1, Nat.shiftLeft_zero]
      by_cases h2 : L ≤ p
      · have f3 : (L - p).toNat = 0 := by omega
        have f4 : (p - L).toNat + (L - (p - (c : Int))).toNat = c := by omega
        rw [f3, half_zero, Nat.shiftLeft_eq]
        generalize (p - L).toNat = A at *
        generalize (L - (p - (c : Int))).toNat = B at *
        rw [← f4, Nat.pow_add, ← Nat.mul_assoc, half_exact]
      · have f3 : (p - L).toNat = 0 := by omega
        have f4 : (L - p).toNat + c = (L - (p - (c : Int))).toNat := by omega
        rw [f3, Nat.shiftLeft_zero, ← f4, half_scale]
theorem V_at (j f : Nat) (h1 : 4503599627370496 ≤ f) (h2 : f < 9007199254740992) : V (j * 4503599627370496 + f) = f * pw j := by
  unfold V
  rw [if_neg (by omega), show (j * 4503599627370496 + f) / 4503599627370496 - 1 = j by omega, show 4503599627370496 + (j * 4503599627370496 + f) % 4503599627370496 = f by omega]
  rfl
theorem pw52 : pw 52 = 4503599627370496 := by decide
def sig (m : Nat) : Nat := m * 2 ^ (52 - m.log2)
theorem sig_bd (m : Nat) (h0 : m ≠ 0) (h : m < 9007199254740992) : 4503599627370496 ≤ sig m ∧ sig m < 9007199254740992 ∧ m.log2 ≤ 52 := by
  have h1 := Nat.log2_self_le h0
  have h2 : m < 2 ^ (m.log2 + 1) := Nat.lt_log2_self
  have h3 : m.log2 ≤ 52 := by
    have := (Nat.log2_lt h0 (k := 53)).2 (by omega)
    omega
  unfold sig
  generalize m.log2 = l at *
  have e1 : 2 ^ l * 2 ^ (52 - l) = 4503599627370496 := by rw [← Nat.pow_add, show l + (52 - l) = 52 by omega]
  have e2 : 2 ^ (l + 1) * 2 ^ (52 - l) = 9007199254740992 := by rw [← Nat.pow_add, show l + 1 + (52 - l) = 53 by omega]
  have hp := Nat.two_pow_pos (52 - l)
  exact ⟨by rw [← e1]; exact Nat.mul_le_mul_right _ h1, by rw [← e2]; exact (Nat.mul_lt_mul_right hp).2 h2, h3⟩
/-- The word of a whole number below 2^53. -/
theorem ofI_shape (m : Nat) (h0 : m ≠ 0) (h : m < 9007199254740992) : ofI (m : Int) = (1022 + m.log2) * 4503599627370496 + sig m := by
  obtain ⟨h1, h2, h3⟩ := sig_bd m h0 h
  have hv : V ((1022 + m.log2) * 4503599627370496 + sig m) = m * U := by
    rw [V_at _ _ h1 h2, U_split (52 - m.log2) (1022 + m.log2) (by omega), ← Nat.mul_assoc]
    rfl
  unfold ofI
  rw [Int.natAbs_natCast, ← hv, rnd_V _ (by omega), decide_eq_false (by omega)]
  rfl
theorem mask_i64 : ∀ l, l < 53 → bits BinOp.and IntKind.i64 ((1023 + l : Nat) : Int) 2047 = ((1023 + l : Nat) : Int) := by decide
theorem frac_bits (X : Nat) (hX : X < 9223372036854775808) : bits BinOp.andNot IntKind.u64 (X : Int) 9218868437227405312 = ((X % 4503599627370496 : Nat) : Int) := by
  have h := u64_andNot_nat X 9218868437227405312 (by omega) (by omega)
  have e : X &&& (18446744073709551615 - 9218868437227405312) = X % 4503599627370496 := by
    rw [show 18446744073709551615 - 9218868437227405312 = 9223372036854775808 ||| 4503599627370495 by decide, Nat.and_or_distrib_left, show 9223372036854775808 = 2 ^ 63 from rfl, nat_bit 63 X, show X / 2 ^ 63 = 0 by omega]
    rw [show 4503599627370495 = 2 ^ 52 - 1 from rfl, Nat.and_two_pow_sub_one_eq_mod]
    simp
  rw [e] at h
  exact h
theorem ldin (m : Nat) (h0 : m ≠ 0) (h : m < 9007199254740992) : LdIn (ofI (m : Int)) (1023 + m.log2) := by
  obtain ⟨h1, h2, h3⟩ := sig_bd m h0 h
  rw [ofI_shape m h0 h]
  generalize sig m = f at *
  generalize m.log2 = l at *
  generalize hX : (1022 + l) * 4503599627370496 + f = X
  have hlt : X < 9223372036854775808 := by omega
  have hrg : rg X = X := by unfold rg; omega
  have hsg : sgB X = false := (sgB_false (by omega)).2 hlt
  have hnan : nanB X = false := by rw [nan_rg, hrg, decide_eq_false_iff_not]; omega
  have hsv : sv X = V X := by unfold sv sgn; rw [hsg, hrg]; simp
  have ho : Ieee.double.order X 0 = some .gt := by
    rw [order_sv X 0 hnan (by decide), hsv, show sv 0 = 0 from rfl, compare_gt]
    have := V_lt (show 0 < X by omega)
    omega
  refine ⟨hlt, hnan, by omega, by omega, mask_i64 l (by omega), ?_, ?_, ?_, ?_, ?_⟩
  · show (Ieee.double.order X 0 == some .eq) = false
    rw [ho]; rfl
  · show (Ieee.double.order X 9218868437227405311 == some .gt) = false
    rw [gt_max X (by omega)]; exact decide_eq_false (by omega)
  · show (Ieee.double.order X 4503599627370496 == some .lt) = false
    rw [order_sv X _ hnan (by decide), hsv, show sv 4503599627370496 = V 4503599627370496 from rfl]
    have hv := V_le (show 4503599627370496 ≤ X by omega)
    rcases Int.lt_or_eq_of_le (show (V 4503599627370496 : Int) ≤ V X by omega) with g | g
    · rw [compare_gt g]; rfl
    · rw [compare_eq g.symm]; rfl
  · show (Ieee.double.order X 0 == some .lt) = false
    rw [ho]; rfl
  · have hb := bits_and_u64_nat X 9223372036854775808 (by omega) (by omega)
    rw [show X &&& 9223372036854775808 = 0 by rw [show 9223372036854775808 = 2 ^ 63 from rfl, nat_bit 63 X, show X / 2 ^ 63 = 0 by omega]] at hb
    exact hb
theorem mul_one_raw (Y : Nat) (hY : Y < 18446744073709551616) (h : rg Y < 9218868437227405312) : floatBits .mul .f64 4607182418800017408 Y = some Y := by
  show Ieee.double.mul 4607182418800017408 Y = some Y
  rw [mul_comm']
  obtain ⟨m, k, e, _⟩ := read_num Y h
  unfold Format.mul
  rw [e, read_one]
  simp only [Datum.product, Option.map_some, Format.write, Bool.xor_false]
  have := nearest_read Y hY _ m _ e 52
  rw [show ((-1074 : Int) + k + -52) = (-1074 + (k : Int) - (52 : Nat)) by omega, show m * 4503599627370496 = m * 2 ^ 52 from rfl, this]
theorem read_53 : Ieee.double.read 4368491638549381120 = .number false 4503599627370496 (-105) := by decide +kernel
theorem mul_sub_raw (Y : Nat) (hY : Y < 9218868437227405312) : ∃ r, r < 18446744073709551616 ∧ floatBits .mul .f64 4368491638549381120 Y = some r ∧ ∀ n, V Y = n * pw 53 → r = rnd n := by
  have hr : rg Y = Y := by unfold rg; omega
  have hs : sgB Y = false := (sgB_false (by omega)).2 (by omega)
  obtain ⟨m, k, e, v⟩ := read_num Y (by rw [hr]; exact hY)
  rw [hr] at v
  have hm : floatBits .mul .f64 4368491638549381120 Y = some (Ieee.double.nearest false (4503599627370496 * m) (-105 + (-1074 + (k : Int)))) := by
    show Ieee.double.mul 4368491638549381120 Y = _
    unfold Format.mul
    rw [e, read_53, hs]
    simp only [Datum.product, Option.map_some, Format.write, Bool.xor_false]
  refine ⟨_, floatBits_lt hm, hm, fun n hn => ?_⟩
  have h1 := nearest_scale false (4503599627370496 * m) k (-105 + (-1074 + (k : Int)))
  rw [← h1]
  have h2 : 4503599627370496 * m * 2 ^ k = n * 2 ^ 105 := by
    rw [Nat.mul_assoc, ← v, hn, Nat.mul_comm, Nat.mul_assoc, ← pw52, ← pw_split 53 52 105 rfl, pw_eq]
  rw [h2, show (-105 + (-1074 + (k : Int)) - (k : Int)) = (-1074 - (105 : Nat)) by omega, nearest_scale]
  have h3 := nearest_rnd false n 0
  rw [Nat.pow_zero, Nat.mul_one, show (-1074 + ((0 : Nat) : Int)) = -1074 by omega] at h3
  rw [h3]
  simp [Format.word]
theorem V_inf_pw (T : Nat) (hT : T = 2098) : V 9218868437227405312 = pw T := by
  have h := V_at 2046 4503599627370496 (by omega) (by omega)
  rw [show 2046 * 4503599627370496 + 4503599627370496 = 9218868437227405312 by omega] at h
  rw [h, ← pw52, ← pw_split 52 2046 T (by omega)]
/-- MATH.LDEXP of a whole number below 2^53. -/
theorem ldexp_any (m : Nat) (h : m < 9007199254740992) (e : Int) (he : -32768 ≤ e ∧ e ≤ 32767) :
    ∃ r, r < 18446744073709551616 ∧ (∀ R k : Nat, R < 9218868437227405312 → e + 1074 = k → V R = m * pw k → r = R) ∧
      ∀ w, Calls Tryz.prog 89 #[.float .f64 (ofI (m : Int)), .int .i64 e] w fun e' w' => e' = .returned (.float .f64 r) ∧ w = w' := by
  by_cases h0 : m = 0
  · subst h0
    refine ⟨0, by omega, fun R k _ _ hv => ?_, fun w => ?_⟩
    · rw [Nat.zero_mul, ← V_zero] at hv
      exact (V_inj hv).symm
    · have : ofI ((0 : Nat) : Int) = 0 := by
        unfold ofI; simp [rnd_zero]; rfl
      rw [this]
      exact ldexp_pub 0 0 e w (ldexp_zero e w)
  · obtain ⟨h1, h2, h3⟩ := sig_bd m h0 h
    have hin := ldin m h0 h
    have hX := ofI_shape m h0 h
    have hlog : pw m.log2 ≤ m := Nat.log2_self_le h0
    have hsig : sig m = m * pw (52 - m.log2) := rfl
    generalize sig m = f at *
    generalize m.log2 = l at *
    generalize ofI (m : Int) = X at *
    have hXl : X < 9223372036854775808 := by omega
    have hF := frac_bits X hXl
    rw [show X % 4503599627370496 = f - 4503599627370496 by omega] at hF
    have hjoin : ∀ z : Nat, z < 2048 → bits BinOp.or IntKind.u64 ((f - 4503599627370496 : Nat) : Int) ((z * 4503599627370496 : Nat) : Int) = ((z * 4503599627370496 + (f - 4503599627370496) : Nat) : Int) := fun z hz => by
      rw [bits_or_u64_nat _ _ (by omega) (by omega), Nat.or_comm, nat_join 52 (z * 4503599627370496) (f - 4503599627370496) (by omega) (by omega)]
    have hq : ((1023 + l : Nat) : Int) - 1023 = l := by omega
    -- where the product is a float, the power is neither too small nor too great
    have hbig : ∀ R k : Nat, R < 9218868437227405312 → e + 1074 = k → V R = m * pw k → e + l ≤ 1023 ∧ -1074 ≤ e + l := fun R k hR hk hv => by
      refine ⟨?_, by omega⟩
      have hlt := V_lt hR
      obtain ⟨T, hT⟩ : ∃ T : Nat, T = 2098 := ⟨_, rfl⟩
      rw [hv, V_inf_pw T hT] at hlt
      have h5 : pw (l + k) < pw T := by
        rw [pw_split l k (l + k) rfl]
        exact Nat.lt_of_le_of_lt (Nat.mul_le_mul_right _ hlog) hlt
      have h6 : l + k < T := by
        rcases Nat.lt_or_ge (l + k) T with g | g
        · exact g
        · have : pw T ≤ pw (l + k) := Nat.pow_le_pow_right (by omega) g
          omega
      omega
    by_cases c1 : e + (l : Int) < -1075
    · refine ⟨0, by omega, fun R k hR hk hv => ?_, fun w => ?_⟩
      · have := hbig R k hR hk hv; omega
      · exact ldexp_pub X 0 e w (ldexp_small X _ e w hin (by omega) (by rw [hq]; exact c1))
    · by_cases c2 : 1023 < e + (l : Int)
      · refine ⟨9218868437227405312, by omega, fun R k hR hk hv => ?_, fun w => ?_⟩
        · have := hbig R k hR hk hv; omega
        · exact ldexp_pub X _ e w (ldexp_great X _ e w hin (by omega) (by rw [hq]; exact c2))
      · by_cases c3 : e + (l : Int) < -1022
        · obtain ⟨z, hz⟩ : ∃ z : Nat, e + (l : Int) + 53 + 1023 = z := ⟨(e + (l : Int) + 53 + 1023).toNat, by omega⟩
          have hwrap : IntKind.u64.wrap ((e + ((((1023 + l : Nat)) : Int) - 1023) + 53 + 1023) * 4503599627370496) = ((z * 4503599627370496 : Nat) : Int) := by
            rw [hq, hz, IntKind.wrap_u64]; omega
          obtain ⟨j, hj⟩ : ∃ j, z = j + 1 := ⟨z - 1, by omega⟩
          have hYv : V (z * 4503599627370496 + (f - 4503599627370496)) = f * pw j := by
            rw [show z * 4503599627370496 + (f - 4503599627370496) = j * 4503599627370496 + f by omega]
            exact V_at j f h1 h2
          obtain ⟨r, hr1, hr2, hr3⟩ := mul_sub_raw (z * 4503599627370496 + (f - 4503599627370496)) (by omega)
          refine ⟨r, hr1, fun R k hR hk hv => ?_, fun w => ?_⟩
          · rw [hr3 (V R) ?_, rnd_V R hR]
            rw [hYv, hv, hsig, Nat.mul_assoc, Nat.mul_assoc]
            rw [← pw_split (52 - l) j (k + 53) (by omega), ← pw_split k 53 (k + 53) rfl]
          · exact ldexp_pub X r e w (ldexp_sub X _ _ _ _ r e w hin (by omega) (by rw [hq]; exact c1) (by rw [hq]; exact c3) hF hwrap (hjoin z (by omega)) hr2)
        · obtain ⟨z, hz⟩ : ∃ z : Nat, e + (l : Int) + 1023 = z := ⟨(e + (l : Int) + 1023).toNat, by omega⟩
          have hwrap : IntKind.u64.wrap ((e + ((((1023 + l : Nat)) : Int) - 1023) + 1023) * 4503599627370496) = ((z * 4503599627370496 : Nat) : Int) := by
            rw [hq, hz, IntKind.wrap_u64]; omega
          obtain ⟨j, hj⟩ : ∃ j, z = j + 1 := ⟨z - 1, by omega⟩
          have hYv : V (z * 4503599627370496 + (f - 4503599627370496)) = f * pw j := by
            rw [show z * 4503599627370496 + (f - 4503599627370496) = j * 4503599627370496 + f by omega]
            exact V_at j f h1 h2
          have hYl : z * 4503599627370496 + (f - 4503599627370496) < 9218868437227405312 := by omega
          refine ⟨z * 4503599627370496 + (f - 4503599627370496), by omega, fun R k hR hk hv => ?_, fun w => ?_⟩
          · apply V_inj
            rw [hYv, hv, hsig, Nat.mul_assoc]
            rw [← pw_split (52 - l) j k (by omega)]
          · exact ldexp_pub X _ e w (ldexp_norm X _ _ _ _ _ e w hin (by omega) (by rw [hq]; exact c1) (by rw [hq]; exact c2) (by rw [hq]; exact c3) hF hwrap (hjoin z (by omega)) (mul_one_raw _ (by omega) (by unfold rg; omega)))
end Go.Proofs.YtdmgaaaomleojaaGreatDoor.Fl
