/- FloOrder: the walk of the law, out of the contracts of what it calls. Conditions: the two tables as start-up lays them; 64 bits. -/
import Derived.Test.YtpdiajagdehfkaaDoorW6
import Derived.Test.YtpdiajagdehfkaaDoorOrd
namespace Go.Proofs.YtpdiajagdehfkaaDoor
open Go.RowKit Ieee

set_option maxRecDepth 100000 in
set_option maxHeartbeats 4000000 in
theorem order_core (a b c fa fb p q : Nat) (x y z mo : Bool) (w : World) (hst : x = false ∨ (x = true ∧ mo = false ∧ y = false) ∨ (x = true ∧ mo = false ∧ y = true ∧ z = true))
    (hfa : bits BinOp.xor IntKind.u64 (a : Int) 9223372036854775808 = (fa : Int)) (hfb : bits BinOp.xor IntKind.u64 (b : Int) 9223372036854775808 = (fb : Int))
    (h0 : Calls Tryd.prog 10 #[] w (Grew (.bool true) w))
    (h1 : ∀ w, Calls Tryd.prog 13 #[.string ⟨#[102, 60]⟩, .int .u64 a, .int .u64 b] w fun e w' => e = .returned (.tuple #[.bool x, .bool true]) ∧ w = w')
    (h2 : ∀ w, Calls Tryd.prog 13 #[.string ⟨#[102, 60]⟩, .int .u64 b, .int .u64 c] w fun e w' => e = .returned (.tuple #[.bool y, .bool true]) ∧ w = w')
    (h3 : ∀ w, Calls Tryd.prog 13 #[.string ⟨#[102, 60]⟩, .int .u64 a, .int .u64 c] w fun e w' => e = .returned (.tuple #[.bool z, .bool true]) ∧ w = w')
    (h4 : ∀ w, Calls Tryd.prog 11 #[.string ⟨#[102, 43]⟩, .int .u64 a, .int .u64 c] w (Drew (.tuple #[.int .u64 p, .bool true]) w))
    (h5 : ∀ w, Calls Tryd.prog 11 #[.string ⟨#[102, 43]⟩, .int .u64 b, .int .u64 c] w (Drew (.tuple #[.int .u64 q, .bool true]) w))
    (h6 : ∀ w, Calls Tryd.prog 13 #[.string ⟨#[102, 60]⟩, .int .u64 q, .int .u64 p] w fun e w' => e = .returned (.tuple #[.bool mo, .bool true]) ∧ w = w')
    (h7 : ∀ w, Calls Tryd.prog 13 #[.string ⟨#[102, 60]⟩, .int .u64 fb, .int .u64 fa] w fun e w' => e = .returned (.tuple #[.bool x, .bool true]) ∧ w = w') :
    Calls Tryd.prog 7 #[.int .u64 a, .int .u64 b, .int .u64 c] w (Grew (.bool true) w) := by
  have H0 := Lib.hid h0
  have H1 := Lib.hid h1
  have H2 := Lib.hid h2
  have H3 := Lib.hid h3
  have H4 := Lib.hid h4
  have H5 := Lib.hid h5
  have H6 := Lib.hid h6
  have H7 := Lib.hid h7
  clear h0 h1 h2 h3 h4 h5 h6 h7
  rcases hst with rfl | ⟨rfl, rfl, rfl⟩ | ⟨rfl, rfl, rfl, rfl⟩
  all_goals
    go_enter Tryd.func7, Tryd.ntmps7
    go_wp2_with fail
    refine H0.out.mono ?_
    rintro e w0 ⟨rfl, hb⟩
    go_wp2_with fail
    refine (H1.out _).mono ?_
    rintro e w' ⟨rfl, rfl⟩
    go_wp2_with fail
    refine (H2.out _).mono ?_
    rintro e w' ⟨rfl, rfl⟩
    go_wp2_with fail
    refine (H3.out _).mono ?_
    rintro e w' ⟨rfl, rfl⟩
    go_wp2_with fail
    refine (H4.out _).mono ?_
    rintro e w' ⟨n4, rfl, rfl⟩
    go_wp2_with fail
    refine (H5.out _).mono ?_
    rintro e w' ⟨n5, rfl, rfl⟩
    go_wp2_with fail
    refine (H6.out _).mono ?_
    rintro e w' ⟨rfl, rfl⟩
    go_wp2_with fail
    refine (H7.out _).mono ?_
    rintro e w' ⟨rfl, rfl⟩
    go_wp2_with fail
    go_ret
    refine ⟨rfl, ?_⟩
    repeat (first | exact hb | refine below_drewN ?_ _)

theorem xor_flip (a : Nat) (ha : a < 18446744073709551616) : bits BinOp.xor IntKind.u64 (a : Int) 9223372036854775808 = (flipN a : Int) :=
  bits_xor_u64_nat a 9223372036854775808 ha (by omega)

theorem floOrder_any (a b c : Nat) (ha : a < 18446744073709551616) (hb : b < 18446744073709551616) (hc : c < 18446744073709551616) (w : World) (ht : Tabs w) :
    Calls Tryd.prog 7 #[.int .u64 a, .int .u64 b, .int .u64 c] w (Grew (.bool true) w) := by
  refine order_core a b c (flipN a) (flipN b) (fop .add a c) (fop .add b c) (ltB a b) (ltB b c) (ltB a c) (ltB (fop .add b c) (fop .add a c)) w ?_ (xor_flip a ha) (xor_flip b hb)
    (first_any w ht) (is_lt a b) (is_lt b c) (is_lt a c) (do_add a c) (do_add b c) (is_lt _ _) ?_
  · cases h1 : ltB a b
    · exact Or.inl rfl
    · have h2 := add_more a b c ha hb hc h1
      cases h3 : ltB b c
      · exact Or.inr (Or.inl ⟨rfl, h2, rfl⟩)
      · exact Or.inr (Or.inr ⟨rfl, h2, rfl, lt_trans' a b c h1 h3⟩)
  · intro w
    have := is_lt (flipN b) (flipN a) w
    rw [flip_lt a b ha hb] at this
    exact this

end Go.Proofs.YtpdiajagdehfkaaDoor
