/- The texts of FloForms: which are a float's, and which are none. No conditions. -/
import Derived.Test.YtpdiajagdehfkaaDoorTxt
import Derived.Test.YtpdiajagdehfkaaDoorGs
namespace Go.Proofs.YtpdiajagdehfkaaDoor
open Ieee

theorem odd_unique (x y i j : Nat) (hx : x % 2 = 1) (hy : y % 2 = 1) (h : x * 2 ^ i = y * 2 ^ j) : x = y ∧ i = j := by
  induction i generalizing j with
  | zero =>
    cases j with
    | zero => simp at h; exact ⟨h, rfl⟩
    | succ j =>
      rw [Nat.pow_zero, Nat.mul_one, Nat.pow_succ, ← Nat.mul_assoc] at h
      omega
  | succ i ih =>
    cases j with
    | zero =>
      rw [Nat.pow_zero, Nat.mul_one, Nat.pow_succ, ← Nat.mul_assoc] at h
      omega
    | succ j =>
      rw [Nat.pow_succ, Nat.pow_succ, ← Nat.mul_assoc, ← Nat.mul_assoc] at h
      obtain ⟨h1, h2⟩ := ih j (Nat.eq_of_mul_eq_mul_right (by omega) h)
      exact ⟨h1, by omega⟩

/-- An odd number below 2^53 times a power of two within bounds is a float. -/
theorem float_of (M E : Nat) (hM : M % 2 = 1) (hM1 : M < 131072) (hE : E < 900) : ∃ a, a < 9218868437227405312 ∧ oddM a = M ∧ oddE a = E ∧ sgB a = false := by
  have h0 : M ≠ 0 := by omega
  obtain ⟨h1, h2, h3⟩ := sig_bd M h0 (by omega)
  have hl : M.log2 ≤ 16 := by
    have := (Nat.log2_lt h0 (k := 17)).2 (by omega)
    omega
  obtain ⟨j, hj⟩ : ∃ j, 52 - M.log2 + j = E + 1074 := ⟨E + 1074 - (52 - M.log2), by omega⟩
  have hV : V (j * 4503599627370496 + sig M) = M * pw (E + 1074) := by
    rw [V_at j _ h1 h2, pw_split (52 - M.log2) j (E + 1074) hj, ← Nat.mul_assoc]
    rfl
  have hlt : j * 4503599627370496 + sig M < 9218868437227405312 := by omega
  generalize j * 4503599627370496 + sig M = a at *
  have hr : rg a = a := by unfold rg; omega
  obtain ⟨k, k1, k2⟩ := val_odd a (by rw [hr]; exact hlt)
  rw [hr, hV] at k2
  have ho : oddM a % 2 = 1 := by
    rcases odd_odd a with ⟨e1, _⟩ | e1
    · rw [e1, Nat.zero_mul] at k2
      have := Nat.mul_pos (show 0 < M by omega) (pw_pos (E + 1074))
      omega
    · exact e1
  obtain ⟨e1, e2⟩ := odd_unique M (oddM a) (E + 1074) k hM ho k2
  exact ⟨a, hlt, e1.symm, by omega, (sgB_false (by omega)).2 (by omega)⟩

/-- The text that FloForms makes of an odd number and a power. -/
def goodL (M E : Nat) : List UInt8 := Lib.decDigits M ++ 112 :: Lib.decDigits E

theorem good_text (M E : Nat) (hM : M % 2 = 1) (hM1 : M < 131072) (hE : E < 900) : ∃ a, a < 9218868437227405312 ∧ textL a = goodL M E := by
  obtain ⟨a, h1, h2, h3, h4⟩ := float_of M E hM hM1 hE
  refine ⟨a, h1, ?_⟩
  rw [textL_fin a (by unfold rg; omega)]
  unfold finL goodL
  rw [h2, h3, h4, Lib.itoa_nonneg]
  rfl

/-- What each text of a float is: one of three words, or a sign, digits, a p, a sign, digits. -/
theorem text_shape (a : Nat) (ha : a < 18446744073709551616) (l : List UInt8) (h : textL a = l) :
    l = [110, 97, 110] ∨ l = [105, 110, 102] ∨ l = [45, 105, 110, 102] ∨ l = finL a := by
  rcases textL_cases a ha with ⟨_, e⟩ | ⟨_, e⟩ | ⟨_, e⟩ | ⟨_, _, e⟩ <;> rw [← h, e] <;> simp

theorem dig_facts (c : UInt8) (h : isDig c) : c ≠ 110 ∧ c ≠ 105 ∧ c ≠ 45 ∧ c ≠ 112 := by
  refine ⟨?_, ?_, ?_, ?_⟩ <;> (rintro rfl; exact absurd h (by unfold isDig; decide))

/-- A float's text that begins with digits and then a p. -/
theorem text_digits (a M : Nat) (r : List UInt8) (ha : a < 18446744073709551616) (h : textL a = Lib.decDigits M ++ 112 :: r) : oddM a = M ∧ r = Lib.itoa (oddE a) := by
  obtain ⟨c, q, e1, e2⟩ := dd_cons M
  have hd := dig_facts c e2
  have hh : ∀ d t, Lib.decDigits M ++ 112 :: r = d :: t → c = d := fun d t e => by
    rw [e1, List.cons_append] at e; exact (List.cons.inj e).1
  rcases text_shape a ha _ h with e | e | e | e
  · exact absurd (hh _ _ e) hd.1
  · exact absurd (hh _ _ e) hd.2.1
  · exact absurd (hh _ _ e) hd.2.2.1
  · unfold finL at e
    cases hs : sgB a
    · rw [hs] at e
      simp only [Bool.false_eq_true, if_false, List.nil_append] at e
      obtain ⟨g1, g2⟩ := split_inj _ _ _ _ (dig_ne _) (dig_ne _) e
      exact ⟨(dd_inj g1).symm, g2⟩
    · rw [hs] at e
      simp only [if_true, List.cons_append, List.nil_append] at e
      exact absurd (hh _ _ e) hd.2.2.1

/-- What a float's text begins with. -/
theorem text_first (a : Nat) (c : UInt8) (l : List UInt8) (ha : a < 18446744073709551616) (h : textL a = c :: l) (h1 : ¬ isDig c) (h2 : c ≠ 110) (h3 : c ≠ 105) : c = 45 ∧ ∃ d t, l = d :: t ∧ (isDig d ∨ d = 105) := by
  rcases text_shape a ha _ h with e | e | e | e
  · exact absurd (List.cons.inj e).1 h2
  · exact absurd (List.cons.inj e).1 h3
  · obtain ⟨rfl, rfl⟩ := List.cons.inj e
    exact ⟨rfl, _, _, rfl, Or.inr rfl⟩
  · obtain ⟨c', r, e1, e2⟩ := fin_head a
    rw [e1] at e
    obtain ⟨rfl, rfl⟩ := List.cons.inj e
    rcases e2 with e2 | ⟨rfl, d, t, e3, e4⟩
    · exact absurd e2 h1
    · exact ⟨rfl, d, t, e3, Or.inl e4⟩

theorem itoa_digits_nonneg (n : Int) (c : UInt8) (r : List UInt8) (h : Lib.itoa n = c :: r) (hc : isDig c) : 0 ≤ n ∧ Lib.itoa n = Lib.decDigits n.toNat := by
  unfold Lib.itoa at h ⊢
  split at h
  · obtain ⟨rfl, _⟩ := List.cons.inj h
    exact absurd hc (by unfold isDig; decide)
  · rename_i h0
    rw [if_neg h0]
    exact ⟨by omega, rfl⟩

/-- THE TEXTS OF FloForms THAT ARE NO FLOAT's. -/
def badL (M E : Nat) : List (List UInt8) :=
  [Lib.decDigits (2 * M) ++ [112, 49], 48 :: goodL M E, 43 :: goodL M E, 45 :: 45 :: goodL M E, goodL M E ++ [48, 48, 48, 48], Lib.decDigits M ++ [112, 48, 49], Lib.decDigits M, [112, 49], Lib.decDigits M ++ [112], [48, 112, 49],
   [45, 110, 97, 110], [73, 110, 102], [57, 48, 48, 55, 49, 57, 57, 50, 53, 52, 55, 52, 48, 57, 57, 51, 112, 48]]

theorem bad_none (M E : Nat) (hM : M % 2 = 1) (l : List UInt8) (hl : l ∈ badL M E) (a : Nat) (ha : a < 18446744073709551616) : l ≠ textL a := by
  intro h
  have h := h.symm
  unfold badL at hl
  simp only [List.mem_cons, List.not_mem_nil, or_false] at hl
  rcases hl with rfl | rfl | rfl | rfl | rfl | rfl | rfl | rfl | rfl | rfl | rfl | rfl | rfl
  · obtain ⟨e1, e2⟩ := text_digits a (2 * M) [49] ha h
    rcases odd_odd a with ⟨g, _⟩ | g <;> omega
  · -- a 0 ahead
    obtain ⟨c, q, e1, e2⟩ := dd_cons M
    have h' : textL a = (48 :: Lib.decDigits M) ++ 112 :: Lib.decDigits E := h
    rcases text_shape a ha _ h with e | e | e | e
    · exact absurd (List.cons.inj e).1 (by decide)
    · exact absurd (List.cons.inj e).1 (by decide)
    · exact absurd (List.cons.inj e).1 (by decide)
    · unfold finL goodL at e
      cases hs : sgB a
      · rw [hs] at e
        simp only [Bool.false_eq_true, if_false, List.nil_append] at e
        obtain ⟨g1, _⟩ := split_inj (48 :: Lib.decDigits M) _ _ _ (fun c hc => by
          rcases List.mem_cons.1 hc with rfl | hc
          · decide
          · exact dig_ne M c hc) (dig_ne _) e
        by_cases h0 : 0 < oddM a
        · obtain ⟨c', r', f1, f2⟩ := (dd_spec (oddM a)).2.2.2 h0
          rw [f1] at g1
          obtain ⟨rfl, _⟩ := List.cons.inj g1
          exact f2 (by decide)
        · have : oddM a = 0 := by omega
          rw [this, Lib.decDigits_one (i := 0) (by omega)] at g1
          have := congrArg List.length g1
          rw [e1] at this
          simp at this
      · rw [hs] at e
        simp only [if_true, List.cons_append, List.nil_append] at e
        exact absurd (List.cons.inj e).1 (by decide)
  · have := text_first a 43 _ ha h (by unfold isDig; decide) (by decide) (by decide)
    exact absurd this.1 (by decide)
  · obtain ⟨_, d, t, e1, e2⟩ := text_first a 45 _ ha h (by unfold isDig; decide) (by decide) (by decide)
    obtain ⟨rfl, _⟩ := List.cons.inj e1
    rcases e2 with e2 | e2
    · exact absurd e2 (by unfold isDig; decide)
    · exact absurd e2 (by decide)
  · have h' : textL a = Lib.decDigits M ++ 112 :: (Lib.decDigits E ++ [48, 48, 48, 48]) := by rw [h]; unfold goodL; simp
    obtain ⟨_, e2⟩ := text_digits a M _ ha h'
    obtain ⟨c, q, f1, f2⟩ := dd_cons E
    have e3 : Lib.itoa (oddE a) = c :: (q ++ [48, 48, 48, 48]) := by rw [← e2, f1]; rfl
    obtain ⟨g1, g2⟩ := itoa_digits_nonneg _ _ _ e3 f2
    rw [g2] at e2
    have hv := congrArg (valF 0) e2
    rw [valF_append, dd_val, dd_val] at hv
    have z : ∀ x l, valF x (48 :: l) = valF (x * 10) l := fun x l => by
      show valF (x * 10 + ((48 : UInt8).toNat - 48)) l = _
      rw [show (48 : UInt8).toNat - 48 = 0 by decide, Nat.add_zero]
    have hv2 : valF E [48, 48, 48, 48] = E * 10000 := by
      rw [z, z, z, z]
      show E * 10 * 10 * 10 * 10 = E * 10000
      omega
    rw [hv2] at hv
    have hb := oddE_bd a
    have hlen := congrArg List.length e2
    rw [List.length_append, Lib.decDigits_length, Lib.decDigits_length] at hlen
    have hn := nDigits_bd 3 (oddE a).toNat (by simp only [Nat.reduceAdd, Nat.reducePow]; omega)
    have hE0 : 1 ≤ Lib.nDigits E := by rw [← Lib.decDigits_length, f1]; simp
    simp only [List.length_cons, List.length_nil] at hlen
    omega
  · obtain ⟨_, e2⟩ := text_digits a M [48, 49] ha h
    obtain ⟨g1, g2⟩ := itoa_digits_nonneg _ _ _ e2.symm (by unfold isDig; decide)
    rw [g2] at e2
    have hv := congrArg (valF 0) e2
    rw [dd_val] at hv
    have hv2 : valF 0 [48, 49] = 1 := by decide
    rw [hv2] at hv
    rw [← hv, Lib.decDigits_one (by omega)] at e2
    exact absurd (congrArg List.length e2) (by simp)
  · obtain ⟨c, q, f1, f2⟩ := dd_cons M
    have hd := dig_facts c f2
    have hh : ∀ d t, Lib.decDigits M = d :: t → c = d := fun d t e => by rw [f1] at e; exact (List.cons.inj e).1
    rcases text_shape a ha _ h with e | e | e | e
    · exact absurd (hh _ _ e) hd.1
    · exact absurd (hh _ _ e) hd.2.1
    · exact absurd (hh _ _ e) hd.2.2.1
    · have : (112 : UInt8) ∈ Lib.decDigits M := by
        rw [e]; unfold finL; simp
      exact dig_ne M 112 this rfl
  · have := text_first a 112 _ ha h (by unfold isDig; decide) (by decide) (by decide)
    exact absurd this.1 (by decide)
  · obtain ⟨_, e2⟩ := text_digits a M [] ha h
    unfold Lib.itoa at e2
    split at e2
    · cases e2
    · exact absurd e2.symm (dd_ne _)
  · obtain ⟨e1, e2⟩ := text_digits a 0 [49] ha (by rw [h, Lib.decDigits_one (by omega)]; rfl)
    rcases odd_odd a with ⟨_, g⟩ | g
    · rw [g] at e2
      exact absurd e2 (by rw [show Lib.itoa 0 = Lib.decDigits 0 from Lib.itoa_nonneg 0, Lib.decDigits_one (by omega)]; decide)
    · omega
  · obtain ⟨_, d, t, e1, e2⟩ := text_first a 45 _ ha h (by unfold isDig; decide) (by decide) (by decide)
    obtain ⟨rfl, _⟩ := List.cons.inj e1
    rcases e2 with e2 | e2
    · exact absurd e2 (by unfold isDig; decide)
    · exact absurd e2 (by decide)
  · have := text_first a 73 _ ha h (by unfold isDig; decide) (by decide) (by decide)
    exact absurd this.1 (by decide)
  · have hd : Lib.decDigits 9007199254740993 = [57, 48, 48, 55, 49, 57, 57, 50, 53, 52, 55, 52, 48, 57, 57, 51] := by decide +kernel
    obtain ⟨e1, _⟩ := text_digits a 9007199254740993 [48] ha (by rw [h, hd]; rfl)
    have := oddM_lt a
    omega

end Go.Proofs.YtpdiajagdehfkaaDoor
