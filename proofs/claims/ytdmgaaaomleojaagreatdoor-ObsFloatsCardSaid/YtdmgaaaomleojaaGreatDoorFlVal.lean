/- Val of stage 1: floats. -/
import Derived.Test.YtdmgaaaomleojaaGreatDoorFlW4
namespace Go.Proofs.YtdmgaaaomleojaaGreatDoor.Fl
open Ieee
/-- How great the rung r is, in units of the least float. -/
def V (r : Nat) : Nat := if r < 4503599627370496 then r else (4503599627370496 + r % 4503599627370496) * 2 ^ (r / 4503599627370496 - 1)
theorem V_succ (r : Nat) : V (r + 1) = V r + 2 ^ (r / 4503599627370496 - 1) := by
  unfold V
  by_cases h1 : r + 1 < 4503599627370496
  · rw [if_pos h1, if_pos (by omega), show r / 4503599627370496 - 1 = 0 by omega]
  · rw [if_neg h1]
    by_cases h2 : r < 4503599627370496
    · have : r = 4503599627370495 := by omega
      subst this
      decide
    · rw [if_neg h2]
      by_cases h3 : r % 4503599627370496 = 4503599627370495
      · have e1 : (r + 1) % 4503599627370496 = 0 := by omega
        have e2 : (r + 1) / 4503599627370496 - 1 = (r / 4503599627370496 - 1) + 1 := by omega
        rw [e1, e2, h3, Nat.pow_succ]
        generalize 2 ^ (r / 4503599627370496 - 1) = p
        omega
      · have e1 : (r + 1) % 4503599627370496 = r % 4503599627370496 + 1 := by omega
        have e2 : (r + 1) / 4503599627370496 = r / 4503599627370496 := by omega
        rw [e1, e2, ← Nat.add_assoc, Nat.add_mul _ 1, Nat.one_mul]
theorem V_lt_succ (r : Nat) : V r < V (r + 1) := by
  rw [V_succ]
  have := Nat.two_pow_pos (r / 4503599627370496 - 1)
  omega
theorem V_lt {r r' : Nat} (h : r < r') : V r < V r' := by
  induction r' with
  | zero => omega
  | succ n ih =>
    have := V_lt_succ n
    by_cases e : r = n
    · subst e; exact this
    · have := ih (by omega); omega
theorem V_le {r r' : Nat} (h : r ≤ r') : V r ≤ V r' := by
  rcases Nat.lt_or_eq_of_le h with h | h
  · exact Nat.le_of_lt (V_lt h)
  · rw [h]; exact Nat.le_refl _
theorem V_inj {r r' : Nat} (h : V r = V r') : r = r' := by
  rcases Nat.lt_trichotomy r r' with h' | h' | h'
  · have := V_lt h'; omega
  · exact h'
  · have := V_lt h'; omega
theorem V_zero : V 0 = 0 := by unfold V; rw [if_pos (by omega)]
/-- The sign bit. -/
def sgB (x : Nat) : Bool := x / 9223372036854775808 % 2 == 1
def rg (x : Nat) : Nat := x % 9223372036854775808
/-- A word's value, in units of the least float; an infinity is one step above the greatest. -/
def sgn (s : Bool) (v : Nat) : Int := if s then -(v : Int) else v
def sv (x : Nat) : Int := sgn (sgB x) (V (rg x))
theorem nan_rg (x : Nat) : nanB x = decide (9218868437227405312 < rg x) := rfl
theorem read_num (x : Nat) (h : rg x < 9218868437227405312) : ∃ m k : Nat, Ieee.double.read x = .number (sgB x) m (-1074 + (k : Int)) ∧ V (rg x) = m * 2 ^ k := by
  unfold rg at h
  unfold Format.read sgB V rg
  simp only [d_sign, d_binade, d_inf, d_least]
  by_cases h1 : x % 9223372036854775808 < 4503599627370496
  · rw [if_pos h1]
    exact ⟨x % 9223372036854775808, 0, by simp, by rw [if_pos h1, Nat.pow_zero, Nat.mul_one]⟩
  · rw [if_neg h1, if_pos h]
    exact ⟨_, _, rfl, by rw [if_neg h1]⟩
theorem read_inf (x : Nat) (h : rg x = 9218868437227405312) : Ieee.double.read x = .infinity (sgB x) := by
  unfold rg at h
  unfold Format.read sgB
  simp only [d_sign, d_binade, d_inf, d_least]
  rw [if_neg (by omega), if_neg (by omega), if_pos h]
theorem signed_eq (s : Bool) (m k : Nat) : signed s m k = sgn s (m * 2 ^ k) := by
  unfold signed sgn
  rw [Nat.shiftLeft_eq]
theorem sgn_scale (s : Bool) (v p : Nat) : sgn s (v * p) = sgn s v * (p : Int) := by
  unfold sgn
  cases s <;> simp [Int.neg_mul]
theorem compare_scale (a b : Int) (p : Nat) (hp : 0 < p) : compare (a * (p : Int)) (b * (p : Int)) = compare a b := by
  have hp' : (0 : Int) < p := by omega
  simp only [compare, compareOfLessAndEq]
  by_cases h1 : a < b
  · rw [if_pos h1, if_pos (Int.mul_lt_mul_of_pos_right h1 hp')]
  · rw [if_neg h1, if_neg (fun h => h1 (Int.lt_of_mul_lt_mul_right h (Int.le_of_lt hp')))]
    by_cases h2 : a = b
    · subst h2; simp
    · rw [if_neg h2, if_neg (fun h => h2 (Int.eq_of_mul_eq_mul_right (by omega) h))]
theorem order_numbers (s t : Bool) (m n k l : Nat) : Datum.order (.number s m (-1074 + (k : Int))) (.number t n (-1074 + (l : Int))) = some (compare (sgn s (m * 2 ^ k)) (sgn t (n * 2 ^ l))) := by
  simp only [Datum.order]
  congr 1
  generalize hb : min k l = b
  have e1 : (-1074 + (k : Int) - min (-1074 + (k : Int)) (-1074 + (l : Int))).toNat = k - b := by omega
  have e2 : (-1074 + (l : Int) - min (-1074 + (k : Int)) (-1074 + (l : Int))).toNat = l - b := by omega
  rw [e1, e2, signed_eq, signed_eq, ← compare_scale _ _ (2 ^ b) (Nat.two_pow_pos b), ← sgn_scale, ← sgn_scale, Nat.mul_assoc, Nat.mul_assoc, ← Nat.pow_add, ← Nat.pow_add,
    show k - b + b = k by omega, show l - b + b = l by omega]
theorem compare_lt {a b : Int} (h : a < b) : compare a b = .lt := by simp only [compare, compareOfLessAndEq]; rw [if_pos h]
theorem compare_gt {a b : Int} (h : b < a) : compare a b = .gt := by simp only [compare, compareOfLessAndEq]; rw [if_neg (by omega), if_neg (by omega)]
theorem compare_eq {a b : Int} (h : a = b) : compare a b = .eq := by subst h; simp only [compare, compareOfLessAndEq]; simp
/-- HOW TWO WORDS STAND TO EACH OTHER: by their values. -/
theorem order_sv (x y : Nat) (hx : nanB x = false) (hy : nanB y = false) : Ieee.double.order x y = some (compare (sv x) (sv y)) := by
  rw [nan_rg, decide_eq_false_iff_not] at hx hy
  unfold Format.order sv
  have hbig : ∀ z, rg z < 9218868437227405312 → V (rg z) < V 9218868437227405312 := fun z hz => V_lt hz
  have hpos : 0 < V 9218868437227405312 := by have := V_lt (show 0 < 9218868437227405312 by omega); omega
  by_cases h1 : rg x < 9218868437227405312
  · obtain ⟨m, k, e1, v1⟩ := read_num x h1
    rw [e1, v1]
    by_cases h2 : rg y < 9218868437227405312
    · obtain ⟨n, l, e2, v2⟩ := read_num y h2
      rw [e2, v2]
      exact order_numbers ..
    · have e2 : rg y = 9218868437227405312 := by omega
      rw [read_inf y e2, e2]
      have := hbig x h1
      rw [v1] at this
      simp only [Datum.order]
      congr 1
      unfold sgn
      generalize m * 2 ^ k = A at *
      cases sgB y
      · exact (compare_lt (by cases sgB x <;> simp <;> omega)).symm
      · exact (compare_gt (by cases sgB x <;> simp <;> omega)).symm
  · have e1 : rg x = 9218868437227405312 := by omega
    rw [read_inf x e1, e1]
    by_cases h2 : rg y < 9218868437227405312
    · obtain ⟨n, l, e2, v2⟩ := read_num y h2
      rw [e2, v2]
      have := hbig y h2
      rw [v2] at this
      simp only [Datum.order]
      congr 1
      unfold sgn
      generalize n * 2 ^ l = A at *
      cases sgB x
      · exact (compare_gt (by cases sgB y <;> simp <;> omega)).symm
      · exact (compare_lt (by cases sgB y <;> simp <;> omega)).symm
    · have e2 : rg y = 9218868437227405312 := by omega
      rw [read_inf y e2, e2]
      simp only [Datum.order]
      congr 1
      unfold sgn
      generalize V 9218868437227405312 = v at *
      cases sgB x <;> cases sgB y
      · exact (compare_eq (by simp)).symm
      · exact (compare_gt (by simp; omega)).symm
      · exact (compare_lt (by simp; omega)).symm
      · exact (compare_eq (by simp)).symm
end Go.Proofs.YtdmgaaaomleojaaGreatDoor.Fl
