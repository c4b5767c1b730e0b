/- FloZeros: the walk of the law. Conditions: the two tables as start-up lays them; 64 bits. -/
import Derived.Test.YtpdiajagdehfkaaDoorW6
import Derived.Test.YtpdiajagdehfkaaDoorOps
namespace Go.Proofs.YtpdiajagdehfkaaDoor
open Go.RowKit Ieee

set_option maxRecDepth 100000 in
set_option maxHeartbeats 1000000 in
theorem zeros_core (a c d E : Nat) (w : World) (b : Bool) (hd : d = if b then 9221120237041090560 else 0)
    (hE1 : bits BinOp.and IntKind.u64 ((c : Int) / 4503599627370496) 2047 = (E : Int)) (hE : ((E : Int) == 2047) = b)
    (h0 : Calls Tryd.prog 10 #[] w (Grew (.bool true) w))
    (h1 : ∀ w, Calls Tryd.prog 20 #[.int .u64 a] w fun e w' => e = .returned (.int .u64 c) ∧ w = w')
    (h2 : ∀ w, Calls Tryd.prog 11 #[.string ⟨#[102, 45]⟩, .int .u64 a, .int .u64 a] w (Drew (.tuple #[.int .u64 d, .bool true]) w))
    (h3 : ∀ w, Calls Tryd.prog 11 #[.string ⟨#[102, 42]⟩, .int .u64 a, .int .u64 4607182418800017408] w (Drew (.tuple #[.int .u64 c, .bool true]) w))
    (h4 : ∀ w, Calls Tryd.prog 11 #[.string ⟨#[102, 45]⟩, .int .u64 a, .int .u64 0] w (Drew (.tuple #[.int .u64 c, .bool true]) w))
    (h5 : ∀ w, Calls Tryd.prog 11 #[.string ⟨#[102, 43]⟩, .int .u64 9223372036854775808, .int .u64 9223372036854775808] w (Drew (.tuple #[.int .u64 9223372036854775808, .bool true]) w))
    (h6 : ∀ w, Calls Tryd.prog 11 #[.string ⟨#[102, 43]⟩, .int .u64 9223372036854775808, .int .u64 0] w (Drew (.tuple #[.int .u64 0, .bool true]) w))
    (h7 : ∀ w, Calls Tryd.prog 11 #[.string ⟨#[102, 42]⟩, .int .u64 9223372036854775808, .int .u64 4607182418800017408] w (Drew (.tuple #[.int .u64 9223372036854775808, .bool true]) w)) :
    Calls Tryd.prog 8 #[.int .u64 a] w (Grew (.bool true) w) := by
  have H0 := Lib.hid h0
  have H1 := Lib.hid h1
  have H2 := Lib.hid h2
  have H3 := Lib.hid h3
  have H4 := Lib.hid h4
  have H5 := Lib.hid h5
  have H6 := Lib.hid h6
  have H7 := Lib.hid h7
  clear h0 h1 h2 h3 h4 h5 h6 h7
  cases b <;> simp only [Bool.false_eq_true, if_false, if_true] at hd <;> subst hd
  all_goals
    go_enter Tryd.func8, Tryd.ntmps8
    go_wp2_with fail
    refine H0.out.mono ?_
    rintro e w0 ⟨rfl, hb⟩
    go_wp2_with fail
    refine (H1.out _).mono ?_
    rintro e w' ⟨rfl, rfl⟩
    go_wp2_with fail
    refine (H2.out _).mono ?_
    rintro e w' ⟨n2, rfl, rfl⟩
    go_wp2_with fail
    refine (H3.out _).mono ?_
    rintro e w' ⟨n3, rfl, rfl⟩
    go_wp2_with fail
    refine (H4.out _).mono ?_
    rintro e w' ⟨n4, rfl, rfl⟩
    go_wp2_with fail
    refine (H5.out _).mono ?_
    rintro e w' ⟨n5, rfl, rfl⟩
    go_wp2_with fail
    refine (H6.out _).mono ?_
    rintro e w' ⟨n6, rfl, rfl⟩
    go_wp2_with fail
    refine (H7.out _).mono ?_
    rintro e w' ⟨n7, rfl, rfl⟩
    go_wp2_with fail
    go_ret
    refine ⟨rfl, ?_⟩
    repeat (first | exact hb | refine below_drewN ?_ _)

theorem canon_mask (c : Nat) (hc : c < 18446744073709551616) : bits BinOp.and IntKind.u64 ((c : Int) / 4503599627370496) 2047 = ((c / 4503599627370496 % 2048 : Nat) : Int) := mask11 c hc

theorem floZeros_any (a : Nat) (ha : a < 18446744073709551616) (w : World) (ht : Tabs w) :
    Calls Tryd.prog 8 #[.int .u64 a] w (Grew (.bool true) w) := by
  have hc := canon_lt a ha
  refine zeros_core a (canonN a) _ _ w (decide (¬ rg a < 9218868437227405312)) rfl (canon_mask _ hc) ?_ (first_any w ht) (canon_any a) ?_ ?_ ?_ ?_ ?_ ?_
  · rw [Bool.eq_iff_iff, beq_iff_eq, decide_eq_true_iff, ← canon_exp]
    omega
  · intro w
    have := do_sub a a w
    rw [fop_sub_self] at this
    by_cases h : rg a < 9218868437227405312
    · rw [if_pos h] at this; simpa [h] using this
    · rw [if_neg h] at this; simpa [h] using this
  · intro w
    have := do_mul a 4607182418800017408 w
    rw [fop_mul_one a ha] at this
    exact this
  · intro w
    have := do_sub a 0 w
    rw [fop_sub_zero a ha] at this
    exact this
  · intro w
    have := do_add 9223372036854775808 9223372036854775808 w
    rw [fop_z1] at this
    exact this
  · intro w
    have := do_add 9223372036854775808 0 w
    rw [fop_z2] at this
    exact this
  · intro w
    have := do_mul 9223372036854775808 4607182418800017408 w
    rw [fop_z3] at this
    exact this

end Go.Proofs.YtpdiajagdehfkaaDoor
