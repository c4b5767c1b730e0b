/- flo.OfInt and flo.ToInt: what they answer. Conditions: words of 64 bits. -/
import Derived.Test.YtpdiajagdehfkaaDoorW6
import Derived.Test.YtpdiajagdehfkaaDoorWhl
namespace Go.Proofs.YtpdiajagdehfkaaDoor
open Go.RowKit Ieee

set_option maxRecDepth 100000 in
set_option maxHeartbeats 400000 in
theorem ofint_any (n : Int) (w : World) :
    Calls Tryd.prog 22 #[.int .i64 n] w fun e w' => e = .returned (.int .u64 (ofI n : Nat)) ∧ w = w' := by
  have HB := Lib.hid (ofI_eq n)
  have tb := to_bits
  refine Calls.mono (R := fun e w' => e = .returned (.int .u64 (floatOfInt .f64 n : Nat)) ∧ w = w') ?_ fun e w' ⟨he, hw⟩ => ⟨by rw [he, HB.out], hw⟩
  go_enter Tryd.func22, Tryd.ntmps22
  go_wp2
  go_ret
  exact ⟨rfl, rfl⟩

set_option maxRecDepth 100000 in
set_option maxHeartbeats 400000 in
theorem toint_nan (a : Nat) (w : World) (h : nanB a = true) :
    Calls Tryd.prog 15 #[.int .u64 a] w fun e w' => e = .returned (.tuple #[.int .i64 0, .bool false]) ∧ w = w' := by
  have H := Lib.hid h
  clear h
  have fb := from_bits
  go_enter Tryd.func15, Tryd.ntmps15
  go_wp2_with (go_at_call 31; refine (isnan_yes _ _ H.out).mono ?_; rintro e w' ⟨rfl, rfl⟩)
  go_ret2
  exact ⟨rfl, rfl⟩

set_option maxRecDepth 100000 in
set_option maxHeartbeats 400000 in
theorem toint_low (a : Nat) (w : World) (h : nanB a = false) (hl : (FloatKind.f64.format.order a 14114281232179134464 == some .lt) = true) :
    Calls Tryd.prog 15 #[.int .u64 a] w fun e w' => e = .returned (.tuple #[.int .i64 0, .bool false]) ∧ w = w' := by
  have H := Lib.hid h
  clear h
  have fb := from_bits
  go_enter Tryd.func15, Tryd.ntmps15
  go_wp2_with (go_at_call 31; refine (isnan_no _ _ H.out).mono ?_; rintro e w' ⟨rfl, rfl⟩)
  go_ret2
  exact ⟨rfl, rfl⟩

set_option maxRecDepth 100000 in
set_option maxHeartbeats 400000 in
theorem toint_high (a : Nat) (w : World) (h : nanB a = false) (hl : (FloatKind.f64.format.order a 14114281232179134464 == some .lt) = false)
    (hh : (FloatKind.f64.format.order a 4890909195324358656 == some .gt || FloatKind.f64.format.order a 4890909195324358656 == some .eq) = true) :
    Calls Tryd.prog 15 #[.int .u64 a] w fun e w' => e = .returned (.tuple #[.int .i64 0, .bool false]) ∧ w = w' := by
  have H := Lib.hid h
  clear h
  have fb := from_bits
  go_enter Tryd.func15, Tryd.ntmps15
  go_wp2_with (go_at_call 31; refine (isnan_no _ _ H.out).mono ?_; rintro e w' ⟨rfl, rfl⟩)
  go_ret2
  exact ⟨rfl, rfl⟩

set_option maxRecDepth 100000 in
set_option maxHeartbeats 400000 in
theorem toint_ok (a : Nat) (n : Int) (w : World) (h : nanB a = false) (hl : (FloatKind.f64.format.order a 14114281232179134464 == some .lt) = false)
    (hh : (FloatKind.f64.format.order a 4890909195324358656 == some .gt || FloatKind.f64.format.order a 4890909195324358656 == some .eq) = false)
    (hv : floatToIntVal .f64 a .i64 = some n) :
    Calls Tryd.prog 15 #[.int .u64 a] w fun e w' => e = .returned (.tuple #[.int .i64 n, .bool true]) ∧ w = w' := by
  have H := Lib.hid h
  clear h
  have fb := from_bits
  have hc : ∀ w, (convert 42 2 (.float .f64 a)).run Tryd.prog w = .ok (.int .i64 n) w := fun w => run_convert_float_int w 42 2 .f64 .i64 a n (by rw [Tryd.underlying42]; rfl) Tryd.underlying2 hv
  clear hv
  go_enter Tryd.func15, Tryd.ntmps15
  go_wp2_with (go_at_call 31; refine (isnan_no _ _ H.out).mono ?_; rintro e w' ⟨rfl, rfl⟩)
  go_ret2
  exact ⟨rfl, rfl⟩

/-- flo.ToInt, of any word. -/
theorem toint_any (a : Nat) (w : World) :
    Calls Tryd.prog 15 #[.int .u64 a] w fun e w' => e = .returned (.tuple #[.int .i64 (if tiOk a then tiVal a else 0), .bool (tiOk a)]) ∧ w = w' := by
  cases hn : nanB a
  · cases hl : lowB a
    · cases hh : highB a
      · have hk : tiOk a = true := by unfold tiOk; rw [hn, hl, hh]; rfl
        rw [hk]
        exact toint_ok a _ w hn hl hh (ti_val a hk)
      · have hk : tiOk a = false := by unfold tiOk; rw [hn, hl, hh]; rfl
        rw [hk]
        exact toint_high a w hn hl hh
    · have hk : tiOk a = false := by unfold tiOk; rw [hn, hl]; rfl
      rw [hk]
      exact toint_low a w hn hl
  · have hk : tiOk a = false := by unfold tiOk; rw [hn]; rfl
    rw [hk]
    exact toint_nan a w hn

theorem arch_step (a : Nat) (w : World) : (callFunc 41 #[.float .f64 a]).run Tryd.prog w = ((Extern.MathFloor.toIntegral "math.archTrunc" .zero #[.float .f64 a]).bind fun v => Sem.pure (.value v)).run Tryd.prog w := by kernel_rfl

end Go.Proofs.YtpdiajagdehfkaaDoor
