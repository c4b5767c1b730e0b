/- R1 of stage 1: floats. -/
import Derived.Test.YtdmgaaaomleojaaGreatDoorFlW18
namespace Go.Proofs.YtdmgaaaomleojaaGreatDoor.Fl
open Go.RowKit Ieee
set_option maxRecDepth 100000 in
set_option maxHeartbeats 400000 in
theorem rcanon_low (a E : Nat) (w : World) (h2 : bits BinOp.and IntKind.u64 ((a : Int) / 4503599627370496) 2047 = (E : Int)) (hE : ((E : Int) == 2047) = false) :
    Calls Tryz.prog 5 #[.int .u64 a] w fun e w' => e = .returned (.int .u64 a) ∧ w = w' := by
  go_enter Tryz.func5, Tryz.ntmps5
  go_wp2_with fail
  go_ret
  exact ⟨rfl, rfl⟩
set_option maxRecDepth 100000 in
set_option maxHeartbeats 400000 in
theorem rcanon_inf (a : Nat) (w : World) (h2 : bits BinOp.and IntKind.u64 ((a : Int) / 4503599627370496) 2047 = 2047) (h1 : bits BinOp.and IntKind.u64 (a : Int) 4503599627370495 = 0) :
    Calls Tryz.prog 5 #[.int .u64 a] w fun e w' => e = .returned (.int .u64 a) ∧ w = w' := by
  go_enter Tryz.func5, Tryz.ntmps5
  go_wp2_with fail
  go_ret
  exact ⟨rfl, rfl⟩
set_option maxRecDepth 100000 in
set_option maxHeartbeats 400000 in
theorem rcanon_nan (a F : Nat) (w : World) (h2 : bits BinOp.and IntKind.u64 ((a : Int) / 4503599627370496) 2047 = 2047) (h1 : bits BinOp.and IntKind.u64 (a : Int) 4503599627370495 = (F : Int)) (hF : ((F : Int) != 0) = true) :
    Calls Tryz.prog 5 #[.int .u64 a] w fun e w' => e = .returned (.int .u64 9221120237041090560) ∧ w = w' := by
  go_enter Tryz.func5, Tryz.ntmps5
  go_wp2_with fail
  go_ret
  exact ⟨rfl, rfl⟩
theorem rcanon_any (a : Nat) (ha : a < 18446744073709551616) (w : World) :
    Calls Tryz.prog 5 #[.int .u64 a] w fun e w' => e = .returned (.int .u64 (canonN a)) ∧ w = w' := by
  have h1 := mask52 a ha
  have h2 := mask11 a ha
  by_cases hE : a / 4503599627370496 % 2048 = 2047
  · rw [hE] at h2
    by_cases hF : a % 4503599627370496 = 0
    · rw [hF] at h1
      rw [canon_of_num (by rw [nan_rg, decide_eq_false_iff_not]; unfold rg; omega)]
      exact rcanon_inf a w h2 h1
    · rw [canon_of_nan (by rw [nan_rg, decide_eq_true_iff]; unfold rg; omega)]
      exact rcanon_nan a _ w h2 h1 (by simp; omega)
  · rw [canon_of_num (by rw [nan_rg, decide_eq_false_iff_not]; unfold rg; omega)]
    exact rcanon_low a _ w h2 (by simp; omega)
end Go.Proofs.YtdmgaaaomleojaaGreatDoor.Fl
