/- Ieee of stage 1: floats. -/
import Derived.Laws.FloatArith
import Derived.Test.YtdmgaaaomleojaaGreatDoorRows
import Derived.Test.YtdmgaaaomleojaaGreatDoorShelf
namespace Go.Proofs.YtdmgaaaomleojaaGreatDoor.Fl
open Ieee
theorem d_binade : Ieee.double.binade = 4503599627370496 := by rfl
theorem d_inf : Ieee.double.infRung = 9218868437227405312 := by rfl
theorem d_sign : Ieee.double.signWeight = 9223372036854775808 := by rfl
theorem d_least : Ieee.double.leastPlace = -1074 := by rfl
/-- A number that ends in so many noughts loses nothing when they are dropped. -/
theorem cut_exact (s : Bool) (m k : Nat) (hm : 0 < m) : Toward.even.cut s (m * 2 ^ k) k = m := by
  have hp : 0 < 2 ^ k := Nat.two_pow_pos k
  have hne : m * 2 ^ k ≠ 0 := by
    have := Nat.mul_pos hm hp; omega
  have hk : k ≤ (m * 2 ^ k).log2 := (Nat.le_log2 hne).2 (Nat.le_mul_of_pos_left _ hm)
  have hmin : min k ((m * 2 ^ k).log2 + 2) = k := by omega
  unfold Toward.cut
  simp only [hmin, Nat.one_shiftLeft, Nat.mul_div_cancel _ hp, Nat.mul_mod_left]
  simp
theorem log2_mul (m k : Nat) (hm : 0 < m) : (m * 2 ^ k).log2 = m.log2 + k := by
  have hp : 0 < 2 ^ k := Nat.two_pow_pos k
  have hne : m * 2 ^ k ≠ 0 := by
    have := Nat.mul_pos hm hp; omega
  rw [Nat.log2_eq_iff hne]
  have h1 := Nat.log2_self_le (n := m) (by omega)
  have h2 := Nat.lt_log2_self (n := m)
  refine ⟨?_, ?_⟩
  · rw [Nat.pow_add]; exact Nat.mul_le_mul_right _ h1
  · rw [show m.log2 + k + 1 = (m.log2 + 1) + k by omega, Nat.pow_add]; exact (Nat.mul_lt_mul_right hp).2 h2
/-- The rung and the sign that a word has. -/
theorem word_of (x : Nat) (hx : x < 18446744073709551616) : Ieee.double.word (x / 9223372036854775808 % 2 == 1) (x % 9223372036854775808) = x := by
  unfold Format.word
  rw [d_sign]
  split <;> rename_i h
  · have : x / 9223372036854775808 % 2 = 1 := by simpa using h
    omega
  · have : ¬ x / 9223372036854775808 % 2 = 1 := by simpa using h
    omega
/-- What a word stands for, written again, is that word, however many noughts are put behind. -/
theorem nearest_read (x : Nat) (hx : x < 18446744073709551616) (s : Bool) (m : Nat) (i : Int) (h : Ieee.double.read x = .number s m i) (k : Nat) :
    Ieee.double.nearest s (m * 2 ^ k) (i - k) = x := by
  have hw := word_of x hx
  unfold Format.read at h
  simp only [d_sign, d_binade, d_inf, d_least] at h
  have hp : 0 < 2 ^ k := Nat.two_pow_pos k
  split at h
  · rename_i hr
    injection h with h1 h2 h3
    subst h1; subst h2; subst h3
    unfold Format.nearest
    split
    · rename_i h0
      have : x % 9223372036854775808 = 0 := by
        rcases Nat.mul_eq_zero.1 h0 with h | h <;> omega
      rw [this] at hw
      exact hw
    · rename_i h0
      have hm : 0 < x % 9223372036854775808 := by
        rcases Nat.eq_zero_or_pos (x % 9223372036854775808) with h | h
        · rw [h] at h0; simp at h0
        · exact h
      have hl : (x % 9223372036854775808).log2 ≤ 51 := by
        have := (Nat.log2_lt (n := x % 9223372036854775808) (k := 52) (by omega)).2 (by omega)
        omega
      simp only [d_least, d_binade, d_inf, log2_mul _ k hm]
      have e1 : max (-1074 - (k : Int) + ((x % 9223372036854775808).log2 + k : Nat) - (Ieee.double.fractionBits : Int)) (-1074) = -1074 := by
        have : (Ieee.double.fractionBits : Int) = 52 := rfl
        omega
      rw [e1]
      have e2 : (-1074 - (k : Int) - -1074).toNat = 0 := by omega
      have e3 : (-1074 - (-1074 - (k : Int))).toNat = k := by omega
      rw [e2, e3, Nat.shiftLeft_zero, cut_exact _ _ _ hm]
      have e4 : min (((-1074 : Int) - -1074).toNat * 4503599627370496 + x % 9223372036854775808) 9218868437227405312 = x % 9223372036854775808 := by omega
      rw [e4]; exact hw
  · rename_i hr
    split at h
    · rename_i hr2
      injection h with h1 h2 h3
      subst h1; subst h2; subst h3
      unfold Format.nearest
      have hm : 0 < 4503599627370496 + x % 9223372036854775808 % 4503599627370496 := by omega
      split
      · rename_i h0
        rcases Nat.mul_eq_zero.1 h0 with h | h <;> omega
      · have hl : (4503599627370496 + x % 9223372036854775808 % 4503599627370496).log2 = 52 := by
          rw [Nat.log2_eq_iff (by omega)]; omega
        simp only [d_least, d_binade, d_inf, log2_mul _ k hm, hl]
        generalize hj : (x % 9223372036854775808 / 4503599627370496 - 1 : Nat) = j
        have e1 : max (-1074 + (j : Int) - (k : Int) + (52 + k : Nat) - (Ieee.double.fractionBits : Int)) (-1074) = -1074 + j := by
          have : (Ieee.double.fractionBits : Int) = 52 := rfl
          omega
        rw [e1]
        have e2 : (-1074 + (j : Int) - k - (-1074 + j)).toNat = 0 := by omega
        have e3 : (-1074 + (j : Int) - (-1074 + (j : Int) - k)).toNat = k := by omega
        rw [e2, e3, Nat.shiftLeft_zero, cut_exact _ _ _ hm]
        have e5 : (-1074 + (j : Int) - -1074).toNat = j := by omega
        rw [e5]
        generalize hr0 : x % 9223372036854775808 = r at *
        have e6 : j * 4503599627370496 + (4503599627370496 + r % 4503599627370496) = r := by
          have := Nat.div_add_mod r 4503599627370496
          have h1 : 1 ≤ r / 4503599627370496 := by omega
          have h2 : r / 4503599627370496 = j + 1 := by omega
          rw [h2] at this
          omega
        rw [e6, Nat.min_eq_left (Nat.le_of_lt hr2)]; exact hw
    · split at h <;> cases h
theorem product_comm (a b : Datum) : a.product b = b.product a := by
  cases a <;> cases b <;> simp only [Datum.product]
  · rw [Bool.xor_comm, Nat.mul_comm, Int.add_comm]
  · rw [Bool.xor_comm]
theorem mul_comm' (x y : Nat) : Ieee.double.mul x y = Ieee.double.mul y x := by unfold Format.mul; rw [product_comm]
/-- Is a word of those that are no number? -/
def nanB (x : Nat) : Bool := decide (9218868437227405312 < x % 9223372036854775808)
theorem read_nan (x : Nat) : nanB x = true ↔ ∃ s t, Ieee.double.read x = .nan s t := by
  unfold nanB Format.read
  simp only [d_sign, d_binade, d_inf, decide_eq_true_eq]
  constructor
  · intro h
    rw [if_neg (by omega), if_neg (by omega), if_neg (by omega)]
    exact ⟨_, _, rfl⟩
  · rintro ⟨s, t, h⟩
    split at h
    · cases h
    · split at h
      · cases h
      · split at h
        · cases h
        · omega
theorem order_nan (x y : Nat) : Ieee.double.order x y = none ↔ (nanB x = true ∨ nanB y = true) := by
  rw [read_nan, read_nan]
  unfold Format.order
  cases hx : Ieee.double.read x <;> cases hy : Ieee.double.read y <;> simp [Datum.order]
theorem order_self (x : Nat) : Ieee.double.order x x = if nanB x = true then none else some .eq := by
  split
  · rename_i h; exact (order_nan x x).2 (Or.inl h)
  · rename_i h
    have hn : ¬ ∃ s t, Ieee.double.read x = .nan s t := fun h' => h ((read_nan x).2 h')
    unfold Format.order
    cases hx : Ieee.double.read x with
    | number s m i => simp [Datum.order]
    | infinity s => simp [Datum.order]
    | nan s t => exact absurd ⟨_, _, hx⟩ hn
end Go.Proofs.YtdmgaaaomleojaaGreatDoor.Fl
