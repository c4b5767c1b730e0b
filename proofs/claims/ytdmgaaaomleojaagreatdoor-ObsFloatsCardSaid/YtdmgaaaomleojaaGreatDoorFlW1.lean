/- W1 of stage 1: floats. -/
import Derived.WalkKit
import Derived.WalkSpells
import Derived.Lib.Hide
import Derived.WalkLawsBesides
import Derived.Test.YtdmgaaaomleojaaGreatDoorFlIeee
namespace Go.Proofs.YtdmgaaaomleojaaGreatDoor.Fl
open Go.RowKit Ieee
theorem isnan_any (a : Nat) (w : World) :
    Calls Tryz.prog 41 #[.float .f64 a] w fun e w' => e = .returned (.bool (nanB a)) ∧ w = w' := by
  have hb : (FloatKind.f64.format.order a a != some .eq) = nanB a := by
    show (Ieee.double.order a a != some .eq) = nanB a
    rw [order_self]
    cases nanB a <;> rfl
  have HB := Lib.hid hb
  clear hb
  go_enter Tryz.func41, Tryz.ntmps41
  go_wp2
  go_ret
  exact ⟨by rw [HB.out]; rfl, rfl⟩
theorem from_bits (a : Nat) (w : World) : (callFunc 42 #[.int .u64 (a : Int)]).run Tryz.prog w = .ok (.value (.float .f64 a)) w := by kernel_rfl
theorem to_bits (a : Nat) (w : World) : (callFunc 77 #[.float .f64 a]).run Tryz.prog w = .ok (.value (.int .u64 (a : Int))) w := by kernel_rfl
theorem isnan_yes (a : Nat) (w : World) (h : nanB a = true) :
    Calls Tryz.prog 41 #[.float .f64 a] w fun e w' => e = .returned (.bool true) ∧ w = w' :=
  (isnan_any a w).mono fun _ _ ⟨he, hw⟩ => ⟨by rw [he, h], hw⟩
theorem isnan_no (a : Nat) (w : World) (h : nanB a = false) :
    Calls Tryz.prog 41 #[.float .f64 a] w fun e w' => e = .returned (.bool false) ∧ w = w' :=
  (isnan_any a w).mono fun _ _ ⟨he, hw⟩ => ⟨by rw [he, h], hw⟩
/-- The canonical one. -/
def canonN (a : Nat) : Nat := if nanB a then 9221120237041090560 else a
set_option maxRecDepth 100000 in
set_option maxHeartbeats 400000 in
theorem canon_yes (a : Nat) (w : World) (h : nanB a = true) :
    Calls Tryz.prog 25 #[.int .u64 a] w fun e w' => e = .returned (.int .u64 9221120237041090560) ∧ w = w' := by
  have H := Lib.hid h
  clear h
  have fb := from_bits
  go_enter Tryz.func25, Tryz.ntmps25
  go_wp2_with (go_at_call 41; refine (isnan_yes _ _ H.out).mono ?_; rintro e w' ⟨rfl, rfl⟩)
  go_ret
  exact ⟨rfl, rfl⟩
set_option maxRecDepth 100000 in
set_option maxHeartbeats 400000 in
theorem canon_no (a : Nat) (w : World) (h : nanB a = false) :
    Calls Tryz.prog 25 #[.int .u64 a] w fun e w' => e = .returned (.int .u64 a) ∧ w = w' := by
  have H := Lib.hid h
  clear h
  have fb := from_bits
  go_enter Tryz.func25, Tryz.ntmps25
  go_wp2_with (go_at_call 41; refine (isnan_no _ _ H.out).mono ?_; rintro e w' ⟨rfl, rfl⟩)
  go_ret
  exact ⟨rfl, rfl⟩
theorem canon_any (a : Nat) (w : World) :
    Calls Tryz.prog 25 #[.int .u64 a] w fun e w' => e = .returned (.int .u64 (canonN a)) ∧ w = w' := by
  unfold canonN
  cases h : nanB a
  · exact canon_no a w h
  · exact canon_yes a w h
end Go.Proofs.YtdmgaaaomleojaaGreatDoor.Fl
