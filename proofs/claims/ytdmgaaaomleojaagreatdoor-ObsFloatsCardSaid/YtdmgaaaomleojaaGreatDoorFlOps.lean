/- Ops of stage 1: floats. -/
import Derived.Test.YtdmgaaaomleojaaGreatDoorFlW6
namespace Go.Proofs.YtdmgaaaomleojaaGreatDoor.Fl
open Ieee
/-- A word is one of three: a finite one, an infinity, or no number. -/
theorem three (x : Nat) : (rg x < 9218868437227405312 ∧ nanB x = false) ∨ (rg x = 9218868437227405312 ∧ nanB x = false) ∨ (9218868437227405312 < rg x ∧ nanB x = true) := by
  rw [nan_rg]
  rcases Nat.lt_trichotomy (rg x) 9218868437227405312 with h | h | h
  · exact Or.inl ⟨h, decide_eq_false (by omega)⟩
  · exact Or.inr (Or.inl ⟨h, decide_eq_false (by omega)⟩)
  · exact Or.inr (Or.inr ⟨h, decide_eq_true h⟩)
theorem word_sgB (x : Nat) (hx : x < 18446744073709551616) : Ieee.double.word (sgB x) (rg x) = x := word_of x hx
theorem canon_of_num {x : Nat} (h : nanB x = false) : canonN x = x := by unfold canonN; rw [h]; rfl
theorem canon_of_nan {x : Nat} (h : nanB x = true) : canonN x = 9221120237041090560 := by unfold canonN; rw [h]; rfl
theorem read_one : Ieee.double.read 4607182418800017408 = .number false 4503599627370496 (-52) := by decide +kernel
theorem canon_lt (a : Nat) (ha : a < 18446744073709551616) : canonN a < 18446744073709551616 := by unfold canonN; split <;> omega
end Go.Proofs.YtdmgaaaomleojaaGreatDoor.Fl
