/- Whl of stage 1: floats. -/
import Derived.Test.YtdmgaaaomleojaaGreatDoorFlRnd
namespace Go.Proofs.YtdmgaaaomleojaaGreatDoor.Fl
open Ieee
/-- One, in units of the least float. -/
def pw (k : Nat) : Nat := 2 ^ k
theorem pw_eq (k : Nat) : pw k = 2 ^ k := rfl
theorem pw_split (a b k : Nat) (h : a + b = k) : pw k = pw a * pw b := by subst h; exact Nat.pow_add 2 a b
def U : Nat := pw 1074
theorem U_split (a b : Nat) (h : a + b = 1074) : U = 2 ^ a * 2 ^ b := by
  rw [← Nat.pow_add, ← pw_eq, h]; rfl
theorem nearest_pw (s : Bool) (m k : Nat) : Ieee.double.nearest s m (-1074 + (k : Int)) = Ieee.double.word s (rnd (m * pw k)) := nearest_rnd s m k
theorem rnd_V (r : Nat) (h : r < 9218868437227405312) : rnd (V r) = r := by
  have hr : rg r = r := by unfold rg; omega
  have hs : sgB r = false := (sgB_false (by omega)).2 (by omega)
  obtain ⟨m, k, e, v⟩ := read_num r (by rw [hr]; exact h)
  have h1 := nearest_read r (by omega) _ m _ e 0
  rw [Nat.pow_zero, Nat.mul_one, show (-1074 + (k : Int) - (0 : Nat)) = -1074 + (k : Int) by omega, nearest_rnd, hs] at h1
  rw [hr] at v
  rw [v]
  simpa [Format.word] using h1
/-- 'float64(n)', as a word. -/
def ofI (n : Int) : Nat := Ieee.double.word (decide (n < 0)) (rnd (n.natAbs * U))
theorem ofI_eq (n : Int) : floatOfInt .f64 n = ofI n := by
  show Ieee.double.nearest (decide (n < 0)) n.natAbs 0 = _
  have := nearest_pw (decide (n < 0)) n.natAbs 1074
  rw [show (-1074 + ((1074 : Nat) : Int)) = 0 by omega] at this
  exact this
end Go.Proofs.YtdmgaaaomleojaaGreatDoor.Fl
