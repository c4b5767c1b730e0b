/- W15 of stage 1: floats. -/
import Derived.Test.YtdmgaaaomleojaaGreatDoorFlWhl
namespace Go.Proofs.YtdmgaaaomleojaaGreatDoor.Fl
open Go.RowKit Ieee
theorem abs_bits (X : Nat) (hX : X < 9223372036854775808) : bits BinOp.andNot IntKind.u64 (X : Int) 9223372036854775808 = (X : Int) := by
  have h := u64_andNot_nat X 9223372036854775808 (by omega) (by omega)
  rw [show 18446744073709551615 - 9223372036854775808 = 2 ^ 63 - 1 from rfl, Nat.and_two_pow_sub_one_eq_mod, Nat.mod_eq_of_lt hX] at h
  exact h
set_option maxRecDepth 100000 in
set_option maxHeartbeats 400000 in
theorem abs_pos (X : Nat) (hX : X < 9223372036854775808) (w : World) :
    Calls Tryz.prog 76 #[.float .f64 X] w fun e w' => e = .returned (.float .f64 X) ∧ w = w' := by
  have hb := abs_bits X hX
  have fb := from_bits
  have tb := to_bits
  clear hX
  go_enter Tryz.func76, Tryz.ntmps76
  go_wp2
  go_ret
  exact ⟨rfl, rfl⟩
set_option maxRecDepth 100000 in
set_option maxHeartbeats 400000 in
theorem isinf_any0 (X : Nat) (hX : X < 9223372036854775808) (hg : (FloatKind.f64.format.order X 9218868437227405311 == some .gt) = false) (w : World) :
    Calls Tryz.prog 56 #[.float .f64 X, .int .i64 0] w fun e w' => e = .returned (.bool false) ∧ w = w' := by
  have HX := Lib.hid hX
  clear hX
  go_enter Tryz.func56, Tryz.ntmps56
  go_wp2_with (go_at_call 76; refine (abs_pos _ HX.out _).mono ?_; rintro e w' ⟨rfl, rfl⟩)
  go_ret
  exact ⟨rfl, rfl⟩
set_option maxRecDepth 100000 in
set_option maxHeartbeats 400000 in
theorem normalize_big (X : Nat) (hX : X < 9223372036854775808) (hg : (FloatKind.f64.format.order X 4503599627370496 == some .lt) = false) (w : World) :
    Calls Tryz.prog 115 #[.float .f64 X] w fun e w' => e = .returned (.tuple #[.float .f64 X, .int .i64 0]) ∧ w = w' := by
  have HX := Lib.hid hX
  clear hX
  go_enter Tryz.func115, Tryz.ntmps115
  go_wp2_with (go_at_call 76; refine (abs_pos _ HX.out _).mono ?_; rintro e w' ⟨rfl, rfl⟩)
  go_ret2
  exact ⟨rfl, rfl⟩
set_option maxRecDepth 100000 in
set_option maxHeartbeats 400000 in
theorem copysign_pos (X : Nat) (hX : bits BinOp.and IntKind.u64 (X : Int) 9223372036854775808 = 0) (w : World) :
    Calls Tryz.prog 116 #[.float .f64 0, .float .f64 X] w fun e w' => e = .returned (.float .f64 0) ∧ w = w' := by
  have fb : ∀ w, (callFunc 42 #[.int .u64 0]).run Tryz.prog w = .ok (.value (.float .f64 0)) w := fun w => from_bits 0 w
  have tb := to_bits
  have t0 : ∀ w, (callFunc 77 #[.float .f64 0]).run Tryz.prog w = .ok (.value (.int .u64 0)) w := fun w => to_bits 0 w
  have z1 : bits BinOp.andNot IntKind.u64 0 9223372036854775808 = 0 := by decide
  have z2 : bits BinOp.or IntKind.u64 0 0 = 0 := by decide
  go_enter Tryz.func116, Tryz.ntmps116
  go_wp2
  go_ret
  exact ⟨rfl, rfl⟩
/-- What the walk of ldexp asks of the first operand. -/
structure LdIn (X q : Nat) : Prop where
  lt : X < 9223372036854775808
  nan : nanB X = false
  quot : (X : Int) / 4503599627370496 = q
  small : q < 2047
  mask : bits BinOp.and IntKind.i64 (q : Int) 2047 = q
  zero : (FloatKind.f64.format.order X 0 == some .eq) = false
  most : (FloatKind.f64.format.order X 9218868437227405311 == some .gt) = false
  least : (FloatKind.f64.format.order X 4503599627370496 == some .lt) = false
  neg : (FloatKind.f64.format.order X 0 == some .lt) = false
  sign : bits BinOp.and IntKind.u64 (X : Int) 9223372036854775808 = 0
set_option maxRecDepth 100000 in
set_option maxHeartbeats 1000000 in
theorem ldexp_norm (X q F Y Z r : Nat) (e : Int) (w : World) (h : LdIn X q) (he : -40000 ≤ e ∧ e ≤ 40000)
    (h1 : ¬ e + ((q : Int) - 1023) < -1075) (h2 : ¬ 1023 < e + ((q : Int) - 1023)) (h3 : ¬ e + ((q : Int) - 1023) < -1022)
    (hF : bits BinOp.andNot IntKind.u64 (X : Int) 9218868437227405312 = (F : Int))
    (hs : IntKind.u64.wrap ((e + ((q : Int) - 1023) + 1023) * 4503599627370496) = (Z : Int))
    (hY : bits BinOp.or IntKind.u64 (F : Int) (Z : Int) = (Y : Int))
    (hm : floatBits .mul .f64 4607182418800017408 Y = some r) :
    Calls Tryz.prog 103 #[.float .f64 X, .int .i64 e] w fun e' w' => e' = .returned (.float .f64 r) ∧ w = w' := by
  obtain ⟨hlt, hnan, hq, hq1, hmask, hz, hmost, hleast, hneg, hsign⟩ := h
  have H0 := Lib.hid hnan
  have H1 := Lib.hid (isinf_any0 X hlt hmost)
  have H2 := Lib.hid (normalize_big X hlt hleast)
  clear hnan hmost hleast hneg hsign hlt
  have fb := from_bits
  have tb := to_bits
  have hrun := fun w => run_float_arith (P := Tryz.prog) w .mul 74 .f64 4607182418800017408 Y r hm
  clear hm
  obtain ⟨he0, he1⟩ := he
  go_enter Tryz.func103, Tryz.ntmps103
  go_wp2_with fail
  refine (H1.out _).mono ?_
  rintro e' w' ⟨rfl, rfl⟩
  go_wp2_with fail
  refine (isnan_no _ _ H0.out).mono ?_
  rintro e' w' ⟨rfl, rfl⟩
  go_wp2_with fail
  refine (H2.out _).mono ?_
  rintro e' w' ⟨rfl, rfl⟩
  go_wp2_with fail
  go_ret
  exact ⟨rfl, rfl⟩
set_option maxRecDepth 100000 in
set_option maxHeartbeats 1000000 in
theorem ldexp_sub (X q F Y Z r : Nat) (e : Int) (w : World) (h : LdIn X q) (he : -40000 ≤ e ∧ e ≤ 40000)
    (h1 : ¬ e + ((q : Int) - 1023) < -1075) (h3 : e + ((q : Int) - 1023) < -1022)
    (hF : bits BinOp.andNot IntKind.u64 (X : Int) 9218868437227405312 = (F : Int))
    (hs : IntKind.u64.wrap ((e + ((q : Int) - 1023) + 53 + 1023) * 4503599627370496) = (Z : Int))
    (hY : bits BinOp.or IntKind.u64 (F : Int) (Z : Int) = (Y : Int))
    (hm : floatBits .mul .f64 4368491638549381120 Y = some r) :
    Calls Tryz.prog 103 #[.float .f64 X, .int .i64 e] w fun e' w' => e' = .returned (.float .f64 r) ∧ w = w' := by
  obtain ⟨hlt, hnan, hq, hq1, hmask, hz, hmost, hleast, hneg, hsign⟩ := h
  have H0 := Lib.hid hnan
  have H1 := Lib.hid (isinf_any0 X hlt hmost)
  have H2 := Lib.hid (normalize_big X hlt hleast)
  clear hnan hmost hleast hneg hsign hlt
  have fb := from_bits
  have tb := to_bits
  have hrun := fun w => run_float_arith (P := Tryz.prog) w .mul 74 .f64 4368491638549381120 Y r hm
  clear hm
  obtain ⟨he0, he1⟩ := he
  go_enter Tryz.func103, Tryz.ntmps103
  go_wp2_with fail
  refine (H1.out _).mono ?_
  rintro e' w' ⟨rfl, rfl⟩
  go_wp2_with fail
  refine (isnan_no _ _ H0.out).mono ?_
  rintro e' w' ⟨rfl, rfl⟩
  go_wp2_with fail
  refine (H2.out _).mono ?_
  rintro e' w' ⟨rfl, rfl⟩
  go_wp2_with fail
  go_ret
  exact ⟨rfl, rfl⟩
set_option maxRecDepth 100000 in
set_option maxHeartbeats 1000000 in
theorem ldexp_small (X q : Nat) (e : Int) (w : World) (h : LdIn X q) (he : -40000 ≤ e ∧ e ≤ 40000) (h1 : e + ((q : Int) - 1023) < -1075) :
    Calls Tryz.prog 103 #[.float .f64 X, .int .i64 e] w fun e' w' => e' = .returned (.float .f64 0) ∧ w = w' := by
  obtain ⟨hlt, hnan, hq, hq1, hmask, hz, hmost, hleast, hneg, hsign⟩ := h
  have H0 := Lib.hid hnan
  have H1 := Lib.hid (isinf_any0 X hlt hmost)
  have H2 := Lib.hid (normalize_big X hlt hleast)
  have H3 := Lib.hid (copysign_pos X hsign)
  clear hnan hmost hleast hneg hsign hlt
  have fb := from_bits
  have tb := to_bits
  obtain ⟨he0, he1⟩ := he
  go_enter Tryz.func103, Tryz.ntmps103
  go_wp2_with fail
  refine (H1.out _).mono ?_
  rintro e' w' ⟨rfl, rfl⟩
  go_wp2_with fail
  refine (isnan_no _ _ H0.out).mono ?_
  rintro e' w' ⟨rfl, rfl⟩
  go_wp2_with fail
  refine (H2.out _).mono ?_
  rintro e' w' ⟨rfl, rfl⟩
  go_wp2_with fail
  refine (H3.out _).mono ?_
  rintro e' w' ⟨rfl, rfl⟩
  go_wp2_with fail
  go_ret
  exact ⟨rfl, rfl⟩
set_option maxRecDepth 100000 in
set_option maxHeartbeats 1000000 in
theorem ldexp_great (X q : Nat) (e : Int) (w : World) (h : LdIn X q) (he : -40000 ≤ e ∧ e ≤ 40000) (h2 : 1023 < e + ((q : Int) - 1023)) :
    Calls Tryz.prog 103 #[.float .f64 X, .int .i64 e] w fun e' w' => e' = .returned (.float .f64 9218868437227405312) ∧ w = w' := by
  obtain ⟨hlt, hnan, hq, hq1, hmask, hz, hmost, hleast, hneg, hsign⟩ := h
  have H0 := Lib.hid hnan
  have H1 := Lib.hid (isinf_any0 X hlt hmost)
  have H2 := Lib.hid (normalize_big X hlt hleast)
  clear hnan hmost hleast hsign hlt
  have fb := from_bits
  have tb := to_bits
  obtain ⟨he0, he1⟩ := he
  go_enter Tryz.func103, Tryz.ntmps103
  go_wp2_with fail
  refine (H1.out _).mono ?_
  rintro e' w' ⟨rfl, rfl⟩
  go_wp2_with fail
  refine (isnan_no _ _ H0.out).mono ?_
  rintro e' w' ⟨rfl, rfl⟩
  go_wp2_with fail
  refine (H2.out _).mono ?_
  rintro e' w' ⟨rfl, rfl⟩
  go_wp2_with fail
  refine (inf_pos _).mono ?_
  rintro e' w' ⟨rfl, rfl⟩
  go_wp2_with fail
  go_ret
  exact ⟨rfl, rfl⟩
set_option maxRecDepth 100000 in
set_option maxHeartbeats 400000 in
theorem ldexp_zero (e : Int) (w : World) :
    Calls Tryz.prog 103 #[.float .f64 0, .int .i64 e] w fun e' w' => e' = .returned (.float .f64 0) ∧ w = w' := by
  have hz : (FloatKind.f64.format.order 0 0 == some .eq) = true := by decide +kernel
  go_enter Tryz.func103, Tryz.ntmps103
  go_wp2_with fail
  go_ret
  exact ⟨rfl, rfl⟩
set_option maxRecDepth 100000 in
set_option maxHeartbeats 400000 in
/-- math.Ldexp is ldexp. -/
theorem ldexp_pub (X r : Nat) (e : Int) (w : World) (h : Calls Tryz.prog 103 #[.float .f64 X, .int .i64 e] w fun e' w' => e' = .returned (.float .f64 r) ∧ w = w') :
    Calls Tryz.prog 89 #[.float .f64 X, .int .i64 e] w fun e' w' => e' = .returned (.float .f64 r) ∧ w = w' := by
  have H := Lib.hid h
  clear h
  go_enter Tryz.func89, Tryz.ntmps89
  go_wp2_with fail
  refine H.out.mono ?_
  rintro e' w' ⟨rfl, rfl⟩
  go_wp2_with fail
  go_ret
  exact ⟨rfl, rfl⟩
end Go.Proofs.YtdmgaaaomleojaaGreatDoor.Fl
