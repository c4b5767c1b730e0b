/- What a float less itself, less zero and times one is. Conditions: each word has 64 bits. -/
import Derived.Test.YtpdiajagdehfkaaDoorVal
import Derived.Test.YtpdiajagdehfkaaDoorW5
namespace Go.Proofs.YtpdiajagdehfkaaDoor
open Ieee

/-- A word is one of three: a finite one, an infinity, or no number. -/
theorem three (x : Nat) : (rg x < 9218868437227405312 ∧ nanB x = false) ∨ (rg x = 9218868437227405312 ∧ nanB x = false) ∨ (9218868437227405312 < rg x ∧ nanB x = true) := by
  rw [nan_rg]
  rcases Nat.lt_trichotomy (rg x) 9218868437227405312 with h | h | h
  · exact Or.inl ⟨h, decide_eq_false (by omega)⟩
  · exact Or.inr (Or.inl ⟨h, decide_eq_false (by omega)⟩)
  · exact Or.inr (Or.inr ⟨h, decide_eq_true h⟩)

theorem word_sgB (x : Nat) (hx : x < 18446744073709551616) : Ieee.double.word (sgB x) (rg x) = x := word_of x hx

theorem write_inf (x : Nat) (hx : x < 18446744073709551616) (h : rg x = 9218868437227405312) : Ieee.double.word (sgB x) Ieee.double.infRung = x := by
  rw [d_inf, ← h]; exact word_sgB x hx

theorem fop_of_none {op : BinOp} {x y : Nat} (h : floatBits op .f64 x y = none) : fop op x y = 9221120237041090560 := by unfold fop fopO; rw [h]
theorem fop_of_some {op : BinOp} {x y r : Nat} (h : floatBits op .f64 x y = some r) : fop op x y = canonN r := by unfold fop fopO; rw [h]

theorem canon_of_num {x : Nat} (h : nanB x = false) : canonN x = x := by unfold canonN; rw [h]; rfl
theorem canon_of_nan {x : Nat} (h : nanB x = true) : canonN x = 9221120237041090560 := by unfold canonN; rw [h]; rfl

theorem read_one : Ieee.double.read 4607182418800017408 = .number false 4503599627370496 (-52) := by decide +kernel
theorem read_zero : Ieee.double.read 0 = .number false 0 (-1074) := by decide +kernel

theorem fop_mul_one (a : Nat) (ha : a < 18446744073709551616) : fop .mul a 4607182418800017408 = canonN a := by
  rcases three a with ⟨h, hn⟩ | ⟨h, hn⟩ | ⟨_, hn⟩
  · obtain ⟨m, k, e, _⟩ := read_num a h
    refine fop_of_some (r := a) ?_
    show Ieee.double.mul a _ = _
    unfold Format.mul
    rw [e, read_one]
    simp only [Datum.product, Option.map_some, Format.write, Bool.xor_false]
    have := nearest_read a ha _ m _ e 52
    rw [show ((-1074 : Int) + k + -52) = (-1074 + (k : Int) - (52 : Nat)) by omega, show m * 4503599627370496 = m * 2 ^ 52 from rfl, this]
  · refine fop_of_some (r := a) ?_
    show Ieee.double.mul a _ = _
    unfold Format.mul
    rw [read_inf a h, read_one]
    simp only [Datum.product, Bool.xor_false]
    rw [if_neg (by omega)]
    simp only [Option.map_some, Format.write]
    rw [write_inf a ha h]
  · rw [canon_of_nan hn]
    refine fop_of_none ?_
    show Ieee.double.mul a _ = _
    obtain ⟨s, t, e⟩ := (read_nan a).1 hn
    unfold Format.mul
    rw [e]
    rfl

theorem sgn_zero_iff (s : Bool) (v : Nat) : sgn s v = 0 ↔ v = 0 := by unfold sgn; cases s <;> simp
theorem sgn_abs (s : Bool) (v : Nat) : (sgn s v).natAbs = v := by unfold sgn; cases s <;> simp
theorem sgn_neg (s : Bool) (v : Nat) (h : v ≠ 0) : decide (sgn s v < 0) = s := by
  unfold sgn
  cases s
  · simp
  · simp; omega

theorem fop_sub_zero (a : Nat) (ha : a < 18446744073709551616) : fop .sub a 0 = canonN a := by
  rcases three a with ⟨h, hn⟩ | ⟨h, hn⟩ | ⟨_, hn⟩
  · obtain ⟨m, k, e, _⟩ := read_num a h
    refine fop_of_some (r := a) ?_
    show Ieee.double.sub a _ = _
    unfold Format.sub
    rw [e, read_zero]
    have h1 := nearest_read a ha _ m _ e 0
    have h2 := nearest_read a ha _ m _ e
    simp only [Datum.opposite, Datum.sum, Option.map_some, Format.write]
    rw [show min (-1074 + (k : Int)) (-1074) = -1074 by omega, show (-1074 + (k : Int) - -1074).toNat = k by omega, show ((-1074 : Int) - -1074).toNat = 0 by omega, signed_eq, signed_eq]
    rw [show sgn (!false) (0 * 2 ^ 0) = 0 from rfl, Int.add_zero]
    congr 1
    by_cases h0 : sgn (sgB a) (m * 2 ^ k) = 0
    · rw [if_pos h0, h0]
      have hm := (sgn_zero_iff _ _).1 h0
      have hm0 : m = 0 := by
        rcases Nat.mul_eq_zero.1 hm with h | h
        · exact h
        · have := Nat.two_pow_pos k; omega
      subst hm0
      rw [Nat.zero_mul] at h1
      rw [show (sgB a && !false) = sgB a by simp]
      unfold Format.nearest at h1 ⊢
      rw [if_pos rfl] at h1
      rw [show (0 : Int).natAbs = 0 from rfl, if_pos rfl]
      exact h1
    · rw [if_neg h0, sgn_abs, sgn_neg _ _ (fun h => h0 ((sgn_zero_iff _ _).2 h))]
      have := h2 k
      rw [show (-1074 + (k : Int) - k) = -1074 by omega] at this
      exact this
  · refine fop_of_some (r := a) ?_
    show Ieee.double.sub a _ = _
    unfold Format.sub
    rw [read_inf a h, read_zero]
    simp only [Datum.opposite, Datum.sum, Option.map_some, Format.write]
    rw [write_inf a ha h]
  · rw [canon_of_nan hn]
    refine fop_of_none ?_
    show Ieee.double.sub a _ = _
    obtain ⟨s, t, e⟩ := (read_nan a).1 hn
    unfold Format.sub
    rw [e]
    rfl

theorem fop_sub_self (a : Nat) : fop .sub a a = if rg a < 9218868437227405312 then 0 else 9221120237041090560 := by
  rcases three a with ⟨h, hn⟩ | ⟨h, hn⟩ | ⟨h, hn⟩
  · rw [if_pos h]
    obtain ⟨m, k, e, _⟩ := read_num a h
    refine fop_of_some (r := 0) ?_
    show Ieee.double.sub a _ = _
    unfold Format.sub
    rw [e]
    simp only [Datum.opposite, Datum.sum, Option.map_some, Format.write, signed_eq]
    have : ∀ v, sgn (sgB a) v + sgn (!sgB a) v = 0 := fun v => by unfold sgn; cases sgB a <;> simp <;> omega
    rw [this, if_pos rfl]
    cases sgB a <;> rfl
  · rw [if_neg (by omega)]
    refine fop_of_none ?_
    show Ieee.double.sub a _ = _
    unfold Format.sub
    rw [read_inf a h]
    simp only [Datum.opposite, Datum.sum]
    cases sgB a <;> rfl
  · rw [if_neg (by omega)]
    refine fop_of_none ?_
    show Ieee.double.sub a _ = _
    obtain ⟨s, t, e⟩ := (read_nan a).1 hn
    unfold Format.sub
    rw [e]
    rfl

theorem fop_z1 : fop .add 9223372036854775808 9223372036854775808 = 9223372036854775808 := by decide +kernel
theorem fop_z2 : fop .add 9223372036854775808 0 = 0 := by decide +kernel
theorem fop_z3 : fop .mul 9223372036854775808 4607182418800017408 = 9223372036854775808 := by decide +kernel

theorem canon_lt (a : Nat) (ha : a < 18446744073709551616) : canonN a < 18446744073709551616 := by unfold canonN; split <;> omega
theorem canon_exp (a : Nat) : (canonN a / 4503599627370496 % 2048 = 2047) ↔ ¬ rg a < 9218868437227405312 := by
  rcases three a with ⟨h, hn⟩ | ⟨h, hn⟩ | ⟨h, hn⟩
  · rw [canon_of_num hn]; unfold rg at h ⊢; omega
  · rw [canon_of_num hn]; unfold rg at h ⊢; omega
  · rw [canon_of_nan hn]; omega

end Go.Proofs.YtpdiajagdehfkaaDoor
