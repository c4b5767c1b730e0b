/- The document's own answers on floats: Canon, Do, Is, OfInt, as the program's. Conditions: 64 bits. -/
import Derived.Test.YtpdiajagdehfkaaDoorW9
import Derived.Test.YtpdiajagdehfkaaDoorW11
namespace Go.Proofs.YtpdiajagdehfkaaDoor
open Go.RowKit Ieee

set_option maxRecDepth 100000 in
set_option maxHeartbeats 400000 in
theorem rcanon_low (a E : Nat) (w : World) (h2 : bits BinOp.and IntKind.u64 ((a : Int) / 4503599627370496) 2047 = (E : Int)) (hE : ((E : Int) == 2047) = false) :
    Calls Tryd.prog 21 #[.int .u64 a] w fun e w' => e = .returned (.int .u64 a) ∧ w = w' := by
  go_enter Tryd.func21, Tryd.ntmps21
  go_wp2_with fail
  go_ret
  exact ⟨rfl, rfl⟩
set_option maxRecDepth 100000 in
set_option maxHeartbeats 400000 in
theorem rcanon_inf (a : Nat) (w : World) (h2 : bits BinOp.and IntKind.u64 ((a : Int) / 4503599627370496) 2047 = 2047) (h1 : bits BinOp.and IntKind.u64 (a : Int) 4503599627370495 = 0) :
    Calls Tryd.prog 21 #[.int .u64 a] w fun e w' => e = .returned (.int .u64 a) ∧ w = w' := by
  go_enter Tryd.func21, Tryd.ntmps21
  go_wp2_with fail
  go_ret
  exact ⟨rfl, rfl⟩
set_option maxRecDepth 100000 in
set_option maxHeartbeats 400000 in
theorem rcanon_nan (a F : Nat) (w : World) (h2 : bits BinOp.and IntKind.u64 ((a : Int) / 4503599627370496) 2047 = 2047) (h1 : bits BinOp.and IntKind.u64 (a : Int) 4503599627370495 = (F : Int)) (hF : ((F : Int) != 0) = true) :
    Calls Tryd.prog 21 #[.int .u64 a] w fun e w' => e = .returned (.int .u64 9221120237041090560) ∧ w = w' := by
  go_enter Tryd.func21, Tryd.ntmps21
  go_wp2_with fail
  go_ret
  exact ⟨rfl, rfl⟩

theorem rcanon_any (a : Nat) (ha : a < 18446744073709551616) (w : World) :
    Calls Tryd.prog 21 #[.int .u64 a] w fun e w' => e = .returned (.int .u64 (canonN a)) ∧ w = w' := by
  have h1 := mask52 a ha
  have h2 := mask11 a ha
  by_cases hE : a / 4503599627370496 % 2048 = 2047
  · rw [hE] at h2
    by_cases hF : a % 4503599627370496 = 0
    · rw [hF] at h1
      rw [canon_of_num (by rw [nan_rg, decide_eq_false_iff_not]; unfold rg; omega)]
      exact rcanon_inf a w h2 h1
    · rw [canon_of_nan (by rw [nan_rg, decide_eq_true_iff]; unfold rg; omega)]
      exact rcanon_nan a _ w h2 h1 (by simp; omega)
  · rw [canon_of_num (by rw [nan_rg, decide_eq_false_iff_not]; unfold rg; omega)]
    exact rcanon_low a _ w h2 (by simp; omega)

set_option maxRecDepth 100000 in
set_option maxHeartbeats 400000 in
theorem rdo_add (a b : Nat) (w : World) :
    Calls Tryd.prog 12 #[.string ⟨#[102, 43]⟩, .int .u64 a, .int .u64 b] w (Drew (.tuple #[.int .u64 (fop .add a b : Nat), .bool true]) w) := by
  obtain ⟨r, n, hr, hc, hrun⟩ := run_float_any Tryd.prog .add 42 a b w (by simp)
  have HC := Lib.hid hc
  have HR := Lib.hid (rcanon_any r hr)
  clear hc hr
  have fb := from_bits
  have tb := to_bits
  refine Calls.mono (R := fun e w' => e = .returned (.tuple #[.int .u64 (canonN r : Nat), .bool true]) ∧ w' = w.drewN n) ?_ fun e w' ⟨he, hw⟩ => ⟨n, by rw [he, HC.out], hw⟩
  go_enter Tryd.func12, Tryd.ntmps12
  go_wp2_with (go_at_call 21; refine (HR.out _).mono ?_; rintro e w' ⟨rfl, rfl⟩)
  go_ret2
  exact ⟨rfl, rfl⟩

set_option maxRecDepth 100000 in
set_option maxHeartbeats 400000 in
theorem rdo_sub (a b : Nat) (w : World) :
    Calls Tryd.prog 12 #[.string ⟨#[102, 45]⟩, .int .u64 a, .int .u64 b] w (Drew (.tuple #[.int .u64 (fop .sub a b : Nat), .bool true]) w) := by
  obtain ⟨r, n, hr, hc, hrun⟩ := run_float_any Tryd.prog .sub 42 a b w (by simp)
  have HC := Lib.hid hc
  have HR := Lib.hid (rcanon_any r hr)
  clear hc hr
  have fb := from_bits
  have tb := to_bits
  refine Calls.mono (R := fun e w' => e = .returned (.tuple #[.int .u64 (canonN r : Nat), .bool true]) ∧ w' = w.drewN n) ?_ fun e w' ⟨he, hw⟩ => ⟨n, by rw [he, HC.out], hw⟩
  go_enter Tryd.func12, Tryd.ntmps12
  go_wp2_with (go_at_call 21; refine (HR.out _).mono ?_; rintro e w' ⟨rfl, rfl⟩)
  go_ret2
  exact ⟨rfl, rfl⟩

set_option maxRecDepth 100000 in
set_option maxHeartbeats 400000 in
theorem rdo_mul (a b : Nat) (w : World) :
    Calls Tryd.prog 12 #[.string ⟨#[102, 42]⟩, .int .u64 a, .int .u64 b] w (Drew (.tuple #[.int .u64 (fop .mul a b : Nat), .bool true]) w) := by
  obtain ⟨r, n, hr, hc, hrun⟩ := run_float_any Tryd.prog .mul 42 a b w (by simp)
  have HC := Lib.hid hc
  have HR := Lib.hid (rcanon_any r hr)
  clear hc hr
  have fb := from_bits
  have tb := to_bits
  refine Calls.mono (R := fun e w' => e = .returned (.tuple #[.int .u64 (canonN r : Nat), .bool true]) ∧ w' = w.drewN n) ?_ fun e w' ⟨he, hw⟩ => ⟨n, by rw [he, HC.out], hw⟩
  go_enter Tryd.func12, Tryd.ntmps12
  go_wp2_with (go_at_call 21; refine (HR.out _).mono ?_; rintro e w' ⟨rfl, rfl⟩)
  go_ret2
  exact ⟨rfl, rfl⟩

set_option maxRecDepth 100000 in
set_option maxHeartbeats 400000 in
theorem rdo_div (a b : Nat) (w : World) :
    Calls Tryd.prog 12 #[.string ⟨#[102, 47]⟩, .int .u64 a, .int .u64 b] w (Drew (.tuple #[.int .u64 (fop .quo a b : Nat), .bool true]) w) := by
  obtain ⟨r, n, hr, hc, hrun⟩ := run_float_any Tryd.prog .quo 42 a b w (by simp)
  have HC := Lib.hid hc
  have HR := Lib.hid (rcanon_any r hr)
  clear hc hr
  have fb := from_bits
  have tb := to_bits
  refine Calls.mono (R := fun e w' => e = .returned (.tuple #[.int .u64 (canonN r : Nat), .bool true]) ∧ w' = w.drewN n) ?_ fun e w' ⟨he, hw⟩ => ⟨n, by rw [he, HC.out], hw⟩
  go_enter Tryd.func12, Tryd.ntmps12
  go_wp2_with (go_at_call 21; refine (HR.out _).mono ?_; rintro e w' ⟨rfl, rfl⟩)
  go_ret2
  exact ⟨rfl, rfl⟩

set_option maxRecDepth 100000 in
set_option maxHeartbeats 400000 in
theorem do_none (name : ByteArray) (a b : Nat) (w : World) (h1 : (name.toList == [102, 43]) = false) (h2 : (name.toList == [102, 45]) = false) (h3 : (name.toList == [102, 42]) = false) (h4 : (name.toList == [102, 47]) = false) :
    Calls Tryd.prog 11 #[.string name, .int .u64 a, .int .u64 b] w (Drew (.tuple #[.int .u64 0, .bool false]) w) := by
  have fb := from_bits
  refine Calls.mono (R := fun e w' => e = .returned (.tuple #[.int .u64 0, .bool false]) ∧ w' = w) ?_ fun e w' ⟨he, hw⟩ => ⟨0, he, hw⟩
  go_enter Tryd.func11, Tryd.ntmps11
  go_wp2_with fail
  go_ret2
  exact ⟨rfl, rfl⟩

set_option maxRecDepth 100000 in
set_option maxHeartbeats 400000 in
theorem rdo_none (name : ByteArray) (a b : Nat) (w : World) (h1 : (name.toList == [102, 43]) = false) (h2 : (name.toList == [102, 45]) = false) (h3 : (name.toList == [102, 42]) = false) (h4 : (name.toList == [102, 47]) = false) :
    Calls Tryd.prog 12 #[.string name, .int .u64 a, .int .u64 b] w (Drew (.tuple #[.int .u64 0, .bool false]) w) := by
  have fb := from_bits
  refine Calls.mono (R := fun e w' => e = .returned (.tuple #[.int .u64 0, .bool false]) ∧ w' = w) ?_ fun e w' ⟨he, hw⟩ => ⟨0, he, hw⟩
  go_enter Tryd.func12, Tryd.ntmps12
  go_wp2_with fail
  go_ret2
  exact ⟨rfl, rfl⟩

set_option maxRecDepth 100000 in
set_option maxHeartbeats 400000 in
theorem is_none (name : ByteArray) (a b : Nat) (w : World) (h1 : (name.toList == [102, 60]) = false) (h2 : (name.toList == [102, 61]) = false) :
    Calls Tryd.prog 13 #[.string name, .int .u64 a, .int .u64 b] w fun e w' => e = .returned (.tuple #[.bool false, .bool false]) ∧ w = w' := by
  have fb := from_bits
  go_enter Tryd.func13, Tryd.ntmps13
  go_wp2_with fail
  go_ret2
  exact ⟨rfl, rfl⟩

set_option maxRecDepth 100000 in
set_option maxHeartbeats 400000 in
theorem ris_none (name : ByteArray) (a b : Nat) (w : World) (h1 : (name.toList == [102, 60]) = false) (h2 : (name.toList == [102, 61]) = false) :
    Calls Tryd.prog 14 #[.string name, .int .u64 a, .int .u64 b] w fun e w' => e = .returned (.tuple #[.bool false, .bool false]) ∧ w = w' := by
  have fb := from_bits
  go_enter Tryd.func14, Tryd.ntmps14
  go_wp2_with fail
  go_ret2
  exact ⟨rfl, rfl⟩

set_option maxRecDepth 100000 in
set_option maxHeartbeats 400000 in
theorem ris_lt (a b : Nat) (w : World) :
    Calls Tryd.prog 14 #[.string ⟨#[102, 60]⟩, .int .u64 a, .int .u64 b] w fun e w' => e = .returned (.tuple #[.bool (ltB a b), .bool true]) ∧ w = w' := by
  have fb := from_bits
  have HB := Lib.hid (show (FloatKind.f64.format.order a b == some .lt) = ltB a b from rfl)
  refine Calls.mono (R := fun e w' => e = .returned (.tuple #[.bool (FloatKind.f64.format.order a b == some .lt), .bool true]) ∧ w = w') ?_ fun e w' ⟨he, hw⟩ => ⟨by rw [he, HB.out], hw⟩
  go_enter Tryd.func14, Tryd.ntmps14
  go_wp2
  go_ret2
  exact ⟨rfl, rfl⟩

set_option maxRecDepth 100000 in
set_option maxHeartbeats 400000 in
theorem ris_eq (a b : Nat) (w : World) :
    Calls Tryd.prog 14 #[.string ⟨#[102, 61]⟩, .int .u64 a, .int .u64 b] w fun e w' => e = .returned (.tuple #[.bool (eqB a b), .bool true]) ∧ w = w' := by
  have fb := from_bits
  have HB := Lib.hid (show (FloatKind.f64.format.order a b == some .eq) = eqB a b from rfl)
  refine Calls.mono (R := fun e w' => e = .returned (.tuple #[.bool (FloatKind.f64.format.order a b == some .eq), .bool true]) ∧ w = w') ?_ fun e w' ⟨he, hw⟩ => ⟨by rw [he, HB.out], hw⟩
  go_enter Tryd.func14, Tryd.ntmps14
  go_wp2
  go_ret2
  exact ⟨rfl, rfl⟩

theorem ba_of (s : ByteArray) (l : List UInt8) (h : (s.toList == l) = true) : s = ⟨l.toArray⟩ := by
  rw [ByteArray.toList_eq, beq_iff_eq] at h
  apply ByteArray.ext
  rw [← h]

/-- DO, of any name: the program's and the document's. -/
theorem do_both (name : ByteArray) (a b : Nat) : ∃ (c : Nat) (is : Bool), (∀ w, Calls Tryd.prog 11 #[.string name, .int .u64 a, .int .u64 b] w (Drew (.tuple #[.int .u64 c, .bool is]) w)) ∧ ∀ w, Calls Tryd.prog 12 #[.string name, .int .u64 a, .int .u64 b] w (Drew (.tuple #[.int .u64 c, .bool is]) w) := by
  by_cases h1 : (name.toList == [102, 43]) = true
  · rw [ba_of name _ h1]; exact ⟨_, _, do_add a b, rdo_add a b⟩
  · by_cases h2 : (name.toList == [102, 45]) = true
    · rw [ba_of name _ h2]; exact ⟨_, _, do_sub a b, rdo_sub a b⟩
    · by_cases h3 : (name.toList == [102, 42]) = true
      · rw [ba_of name _ h3]; exact ⟨_, _, do_mul a b, rdo_mul a b⟩
      · by_cases h4 : (name.toList == [102, 47]) = true
        · rw [ba_of name _ h4]; exact ⟨_, _, do_div a b, rdo_div a b⟩
        · have g1 := Bool.eq_false_iff.2 h1
          have g2 := Bool.eq_false_iff.2 h2
          have g3 := Bool.eq_false_iff.2 h3
          have g4 := Bool.eq_false_iff.2 h4
          exact ⟨0, false, fun w => do_none name a b w g1 g2 g3 g4, fun w => rdo_none name a b w g1 g2 g3 g4⟩

theorem is_both (name : ByteArray) (a b : Nat) : ∃ (c is : Bool), (∀ w, Calls Tryd.prog 13 #[.string name, .int .u64 a, .int .u64 b] w fun e w' => e = .returned (.tuple #[.bool c, .bool is]) ∧ w = w') ∧ ∀ w, Calls Tryd.prog 14 #[.string name, .int .u64 a, .int .u64 b] w fun e w' => e = .returned (.tuple #[.bool c, .bool is]) ∧ w = w' := by
  by_cases h1 : (name.toList == [102, 60]) = true
  · rw [ba_of name _ h1]; exact ⟨_, _, is_lt a b, ris_lt a b⟩
  · by_cases h2 : (name.toList == [102, 61]) = true
    · rw [ba_of name _ h2]; exact ⟨_, _, is_eq a b, ris_eq a b⟩
    · have g1 := Bool.eq_false_iff.2 h1
      have g2 := Bool.eq_false_iff.2 h2
      exact ⟨false, false, fun w => is_none name a b w g1 g2, fun w => ris_none name a b w g1 g2⟩

set_option maxRecDepth 100000 in
set_option maxHeartbeats 400000 in
theorem rofint_any (n : Int) (w : World) :
    Calls Tryd.prog 23 #[.int .i64 n] w fun e w' => e = .returned (.int .u64 (ofI n : Nat)) ∧ w = w' := by
  have HB := Lib.hid (ofI_eq n)
  have tb := to_bits
  refine Calls.mono (R := fun e w' => e = .returned (.int .u64 (floatOfInt .f64 n : Nat)) ∧ w = w') ?_ fun e w' ⟨he, hw⟩ => ⟨by rw [he, HB.out], hw⟩
  go_enter Tryd.func23, Tryd.ntmps23
  go_wp2
  go_ret
  exact ⟨rfl, rfl⟩

end Go.Proofs.YtpdiajagdehfkaaDoor
