/- flo.Canon and math.IsNaN: what they answer. No conditions. -/
import Derived.Test.YtpdiajagdehfkaaDoorRows
import Derived.Test.YtpdiajagdehfkaaDoorIeee
import Derived.WalkKit
import Derived.WalkSpells
import Derived.Lib.Hide
import Derived.WalkLawsBesides
namespace Go.Proofs.YtpdiajagdehfkaaDoor
open Go.RowKit Ieee

theorem isnan_any (a : Nat) (w : World) :
    Calls Tryd.prog 31 #[.float .f64 a] w fun e w' => e = .returned (.bool (nanB a)) ∧ w = w' := by
  have hb : (FloatKind.f64.format.order a a != some .eq) = nanB a := by
    show (Ieee.double.order a a != some .eq) = nanB a
    rw [order_self]
    cases nanB a <;> rfl
  have HB := Lib.hid hb
  clear hb
  go_enter Tryd.func31, Tryd.ntmps31
  go_wp2
  go_ret
  exact ⟨by rw [HB.out]; rfl, rfl⟩

theorem from_bits (a : Nat) (w : World) : (callFunc 28 #[.int .u64 (a : Int)]).run Tryd.prog w = .ok (.value (.float .f64 a)) w := by kernel_rfl
theorem to_bits (a : Nat) (w : World) : (callFunc 26 #[.float .f64 a]).run Tryd.prog w = .ok (.value (.int .u64 (a : Int))) w := by kernel_rfl

theorem isnan_yes (a : Nat) (w : World) (h : nanB a = true) :
    Calls Tryd.prog 31 #[.float .f64 a] w fun e w' => e = .returned (.bool true) ∧ w = w' :=
  (isnan_any a w).mono fun _ _ ⟨he, hw⟩ => ⟨by rw [he, h], hw⟩
theorem isnan_no (a : Nat) (w : World) (h : nanB a = false) :
    Calls Tryd.prog 31 #[.float .f64 a] w fun e w' => e = .returned (.bool false) ∧ w = w' :=
  (isnan_any a w).mono fun _ _ ⟨he, hw⟩ => ⟨by rw [he, h], hw⟩

/-- The canonical one. -/
def canonN (a : Nat) : Nat := if nanB a then 9221120237041090560 else a

theorem f64_eta (a : Nat) : ((a : Int)).toNat = a := Int.toNat_natCast a

set_option maxRecDepth 100000 in
set_option maxHeartbeats 400000 in
theorem canon_yes (a : Nat) (w : World) (h : nanB a = true) :
    Calls Tryd.prog 20 #[.int .u64 a] w fun e w' => e = .returned (.int .u64 9221120237041090560) ∧ w = w' := by
  have H := Lib.hid h
  clear h
  have fb := from_bits
  go_enter Tryd.func20, Tryd.ntmps20
  go_wp2_with (go_at_call 31; refine (isnan_yes _ _ H.out).mono ?_; rintro e w' ⟨rfl, rfl⟩)
  go_ret
  exact ⟨rfl, rfl⟩

set_option maxRecDepth 100000 in
set_option maxHeartbeats 400000 in
theorem canon_no (a : Nat) (w : World) (h : nanB a = false) :
    Calls Tryd.prog 20 #[.int .u64 a] w fun e w' => e = .returned (.int .u64 a) ∧ w = w' := by
  have H := Lib.hid h
  clear h
  have fb := from_bits
  go_enter Tryd.func20, Tryd.ntmps20
  go_wp2_with (go_at_call 31; refine (isnan_no _ _ H.out).mono ?_; rintro e w' ⟨rfl, rfl⟩)
  go_ret
  exact ⟨rfl, rfl⟩

theorem canon_any (a : Nat) (w : World) :
    Calls Tryd.prog 20 #[.int .u64 a] w fun e w' => e = .returned (.int .u64 (canonN a)) ∧ w = w' := by
  unfold canonN
  cases h : nanB a
  · exact canon_no a w h
  · exact canon_yes a w h

end Go.Proofs.YtpdiajagdehfkaaDoor
