/- NumDivides and NumRing: the walks of the laws, out of the contracts of what they call. Conditions: the table of powers of ten as start-up lays it; 64 bits. -/
import Derived.Test.YtmpkgbpnejajpaaDoorNum4
import Derived.Test.YtmpkgbpnejajpaaDoorWrap
namespace Go.Proofs.YtmpkgbpnejajpaaDoor
open Go.RowKit

set_option maxRecDepth 100000 in
set_option maxHeartbeats 4000000 in
theorem ring_core (a b c s u v p q r : Int) (w : World)
    (HF : Hid (Calls Tryd.prog 8 #[] w (Grew (.bool true) w)))
    (d1 : Hid (∀ w, Calls Tryd.prog 9 #[.string ⟨#[43]⟩, .int .i64 a, .int .i64 b] w fun e w' => e = .returned (.tuple #[.int .i64 s, .int .i64 0, .bool true]) ∧ w = w'))
    (d2 : Hid (∀ w, Calls Tryd.prog 9 #[.string ⟨#[43]⟩, .int .i64 b, .int .i64 a] w fun e w' => e = .returned (.tuple #[.int .i64 s, .int .i64 0, .bool true]) ∧ w = w'))
    (d3 : Hid (∀ w, Calls Tryd.prog 9 #[.string ⟨#[43]⟩, .int .i64 s, .int .i64 c] w fun e w' => e = .returned (.tuple #[.int .i64 u, .int .i64 0, .bool true]) ∧ w = w'))
    (d4 : Hid (∀ w, Calls Tryd.prog 9 #[.string ⟨#[43]⟩, .int .i64 b, .int .i64 c] w fun e w' => e = .returned (.tuple #[.int .i64 v, .int .i64 0, .bool true]) ∧ w = w'))
    (d5 : Hid (∀ w, Calls Tryd.prog 9 #[.string ⟨#[43]⟩, .int .i64 a, .int .i64 v] w fun e w' => e = .returned (.tuple #[.int .i64 u, .int .i64 0, .bool true]) ∧ w = w'))
    (d6 : Hid (∀ w, Calls Tryd.prog 9 #[.string ⟨#[42]⟩, .int .i64 s, .int .i64 c] w fun e w' => e = .returned (.tuple #[.int .i64 p, .int .i64 0, .bool true]) ∧ w = w'))
    (d7 : Hid (∀ w, Calls Tryd.prog 9 #[.string ⟨#[42]⟩, .int .i64 a, .int .i64 c] w fun e w' => e = .returned (.tuple #[.int .i64 q, .int .i64 0, .bool true]) ∧ w = w'))
    (d8 : Hid (∀ w, Calls Tryd.prog 9 #[.string ⟨#[42]⟩, .int .i64 b, .int .i64 c] w fun e w' => e = .returned (.tuple #[.int .i64 r, .int .i64 0, .bool true]) ∧ w = w'))
    (d9 : Hid (∀ w, Calls Tryd.prog 9 #[.string ⟨#[43]⟩, .int .i64 q, .int .i64 r] w fun e w' => e = .returned (.tuple #[.int .i64 p, .int .i64 0, .bool true]) ∧ w = w'))
    (d10 : Hid (∀ w, Calls Tryd.prog 9 #[.string ⟨#[45]⟩, .int .i64 s, .int .i64 b] w fun e w' => e = .returned (.tuple #[.int .i64 a, .int .i64 0, .bool true]) ∧ w = w'))
    (d11 : Hid (∀ w, Calls Tryd.prog 9 #[.string ⟨#[42]⟩, .int .i64 c, .int .i64 s] w fun e w' => e = .returned (.tuple #[.int .i64 p, .int .i64 0, .bool true]) ∧ w = w')) :
    Calls Tryd.prog 6 #[.int .i64 a, .int .i64 b, .int .i64 c] w (Grew (.bool true) w) := by
  go_enter Tryd.func6, Tryd.ntmps6
  go_wp2_with fail
  refine HF.out.mono ?_
  rintro e w1 ⟨rfl, hb⟩
  have HB := Lib.hid hb
  clear hb
  go_wp2_with fail
  refine (d1.out _).mono ?_
  rintro e w' ⟨rfl, rfl⟩
  go_wp2_with fail
  refine (d2.out _).mono ?_
  rintro e w' ⟨rfl, rfl⟩
  go_wp2_with fail
  refine (d3.out _).mono ?_
  rintro e w' ⟨rfl, rfl⟩
  go_wp2_with fail
  refine (d4.out _).mono ?_
  rintro e w' ⟨rfl, rfl⟩
  go_wp2_with fail
  refine (d5.out _).mono ?_
  rintro e w' ⟨rfl, rfl⟩
  go_wp2_with fail
  refine (d6.out _).mono ?_
  rintro e w' ⟨rfl, rfl⟩
  go_wp2_with fail
  refine (d7.out _).mono ?_
  rintro e w' ⟨rfl, rfl⟩
  go_wp2_with fail
  refine (d8.out _).mono ?_
  rintro e w' ⟨rfl, rfl⟩
  go_wp2_with fail
  refine (d9.out _).mono ?_
  rintro e w' ⟨rfl, rfl⟩
  go_wp2_with fail
  refine (d10.out _).mono ?_
  rintro e w' ⟨rfl, rfl⟩
  go_wp2_with fail
  refine (d11.out _).mono ?_
  rintro e w' ⟨rfl, rfl⟩
  go_wp2_with fail
  go_ret
  exact ⟨rfl, HB.out⟩

/-- A contract up to an equal answer. -/
theorem ans_eq {f : Nat} {args : Array Value} {x y : Int} (h : ∀ w, Calls Tryd.prog f args w fun e w' => e = .returned (.tuple #[.int .i64 x, .int .i64 0, .bool true]) ∧ w = w') (e : x = y) : ∀ w, Calls Tryd.prog f args w fun e w' => e = .returned (.tuple #[.int .i64 y, .int .i64 0, .bool true]) ∧ w = w' := e ▸ h


/-- NumRing. -/
theorem numRing_any (a b c : Int) (wa : (Lit.int .i64 a).wf = true) (_ : (Lit.int .i64 b).wf = true) (_ : (Lit.int .i64 c).wf = true) (w : World) (ht : Tabs w) :
    Calls Tryd.prog 6 #[.int .i64 a, .int .i64 b, .int .i64 c] w (Grew (.bool true) w) := by
  have ra : -9223372036854775808 ≤ a ∧ a ≤ 9223372036854775807 := by simpa [Lit.wf, IntKind.min, IntKind.max, IntKind.signed, IntKind.bits] using wa
  refine ring_core a b c (wrap64 (a + b)) (wrap64 (a + b + c)) (wrap64 (b + c)) (wrap64 ((a + b) * c)) (wrap64 (a * c)) (wrap64 (b * c)) w (Lib.hid (first_any w ht))
    (Lib.hid (do_add a b)) (Lib.hid (ans_eq (do_add b a) (by rw [Int.add_comm])))
    (Lib.hid (ans_eq (do_add _ c) (wrap_add_l _ _))) (Lib.hid (do_add b c)) (Lib.hid (ans_eq (do_add a _) (by rw [wrap_add_r, Int.add_assoc])))
    (Lib.hid (ans_eq (do_mul _ c) (wrap_mul_l _ _))) (Lib.hid (do_mul a c)) (Lib.hid (do_mul b c)) (Lib.hid (ans_eq (do_add _ _) (by rw [wrap_add_l, wrap_add_r, Int.add_mul])))
    (Lib.hid (ans_eq (do_sub _ b) (by rw [wrap_sub_l, show a + b - b = a by omega]; exact wrap_in a ra.1 ra.2)))
    (Lib.hid (ans_eq (do_mul c _) (by rw [wrap_mul_r, Int.mul_comm])))

set_option maxRecDepth 100000 in
set_option maxHeartbeats 4000000 in
theorem div_zero (a : Int) (w : World) (HF : Hid (Calls Tryd.prog 8 #[] w (Grew (.bool true) w))) :
    Calls Tryd.prog 5 #[.int .i64 a, .int .i64 0] w (Grew (.bool true) w) := by
  go_enter Tryd.func5, Tryd.ntmps5
  go_wp2_with fail
  refine HF.out.mono ?_
  rintro e w1 ⟨rfl, hb⟩
  have HB := Lib.hid hb
  clear hb
  go_wp2_with fail
  refine (do_div0 a _).mono ?_
  rintro e w' ⟨rfl, rfl⟩
  go_wp2_with fail
  refine (do_mod0 a _).mono ?_
  rintro e w' ⟨rfl, rfl⟩
  go_wp2_with fail
  go_ret
  exact ⟨rfl, HB.out⟩

set_option maxRecDepth 100000 in
set_option maxHeartbeats 16000000 in
theorem div_core (a b q r p x y z : Int) (w : World) (hb0 : (b == 0) = false)
    (HF : Hid (Calls Tryd.prog 8 #[] w (Grew (.bool true) w)))
    (d1 : Hid (∀ w, Calls Tryd.prog 9 #[.string ⟨#[100, 105, 118]⟩, .int .i64 a, .int .i64 b] w fun e w' => e = .returned (.tuple #[.int .i64 q, .int .i64 0, .bool true]) ∧ w = w'))
    (d2 : Hid (∀ w, Calls Tryd.prog 9 #[.string ⟨#[109, 111, 100]⟩, .int .i64 a, .int .i64 b] w fun e w' => e = .returned (.tuple #[.int .i64 r, .int .i64 0, .bool true]) ∧ w = w'))
    (d3 : Hid (∀ w, Calls Tryd.prog 9 #[.string ⟨#[42]⟩, .int .i64 q, .int .i64 b] w fun e w' => e = .returned (.tuple #[.int .i64 p, .int .i64 0, .bool true]) ∧ w = w'))
    (d4 : Hid (∀ w, Calls Tryd.prog 9 #[.string ⟨#[43]⟩, .int .i64 p, .int .i64 r] w fun e w' => e = .returned (.tuple #[.int .i64 a, .int .i64 0, .bool true]) ∧ w = w'))
    (d5 : Hid (∀ w, Calls Tryd.prog 9 #[.string ⟨#[60]⟩, .int .i64 a, .int .i64 b] w fun e w' => e = .returned (.tuple #[.int .i64 x, .int .i64 0, .bool true]) ∧ w = w'))
    (d6 : Hid (∀ w, Calls Tryd.prog 9 #[.string ⟨#[60]⟩, .int .i64 b, .int .i64 a] w fun e w' => e = .returned (.tuple #[.int .i64 y, .int .i64 0, .bool true]) ∧ w = w'))
    (d7 : Hid (∀ w, Calls Tryd.prog 9 #[.string ⟨#[61]⟩, .int .i64 a, .int .i64 b] w fun e w' => e = .returned (.tuple #[.int .i64 z, .int .i64 0, .bool true]) ∧ w = w'))
    (hx0 : 0 ≤ x) (hx1 : x ≤ 1) (hy0 : 0 ≤ y) (hy1 : y ≤ 1) (hz0 : 0 ≤ z) (hz1 : z ≤ 1) (hxyz : ((x + y + z : Int) == 1) = true)
    (rb0 : -9223372036854775808 ≤ b) (rb1 : b ≤ 9223372036854775807)
    (hs : (r == 0) = true ∨ ((r == 0) = false ∧ r < 0 ∧ a < 0) ∨ ((r == 0) = false ∧ ¬ r < 0 ∧ ¬ a < 0))
    (hm : (b == -9223372036854775808) = true ∨ ((b == -9223372036854775808) = false ∧ -9223372036854775808 < b ∧ r < b ∧ -b < r) ∨ ((b == -9223372036854775808) = false ∧ -9223372036854775808 < b ∧ ¬ r < b ∧ r < -b ∧ b < r)) :
    Calls Tryd.prog 5 #[.int .i64 a, .int .i64 b] w (Grew (.bool true) w) := by
  rcases hs with hs | ⟨hs, hs1, hs2⟩ | ⟨hs, hs1, hs2⟩
  all_goals
    rcases hm with hm | ⟨hm, hm1, hm2, hm3⟩ | ⟨hm, hm1, hm2, hm3, hm4⟩
    all_goals
      go_enter Tryd.func5, Tryd.ntmps5
      go_wp2_with fail
      refine HF.out.mono ?_
      rintro e w1 ⟨rfl, hb⟩
      have HB := Lib.hid hb
      clear hb
      go_wp2_with fail
      refine (d1.out _).mono ?_
      rintro e w' ⟨rfl, rfl⟩
      go_wp2_with fail
      refine (d2.out _).mono ?_
      rintro e w' ⟨rfl, rfl⟩
      go_wp2_with fail
      refine (d3.out _).mono ?_
      rintro e w' ⟨rfl, rfl⟩
      go_wp2_with fail
      refine (d4.out _).mono ?_
      rintro e w' ⟨rfl, rfl⟩
      go_wp2_with fail
      refine (d5.out _).mono ?_
      rintro e w' ⟨rfl, rfl⟩
      go_wp2_with fail
      refine (d6.out _).mono ?_
      rintro e w' ⟨rfl, rfl⟩
      go_wp2_with fail
      refine (d7.out _).mono ?_
      rintro e w' ⟨rfl, rfl⟩
      go_wp2_with fail
      go_ret
      exact ⟨rfl, HB.out⟩

/-- NumDivides. -/
theorem numDivides_any (a b : Int) (wa : (Lit.int .i64 a).wf = true) (wb : (Lit.int .i64 b).wf = true) (w : World) (ht : Tabs w) :
    Calls Tryd.prog 5 #[.int .i64 a, .int .i64 b] w (Grew (.bool true) w) := by
  have ra : -9223372036854775808 ≤ a ∧ a ≤ 9223372036854775807 := by simpa [Lit.wf, IntKind.min, IntKind.max, IntKind.signed, IntKind.bits] using wa
  have rb : -9223372036854775808 ≤ b ∧ b ≤ 9223372036854775807 := by simpa [Lit.wf, IntKind.min, IntKind.max, IntKind.signed, IntKind.bits] using wb
  by_cases hb : b = 0
  · subst hb
    exact div_zero a w (Lib.hid (first_any w ht))
  have hb' : (b == 0) = false := by simpa using hb
  have hsg := rem_sign a b
  have hsm := rem_small a b hb
  have h1 : ∀ t : Bool, 0 ≤ oneI t ∧ oneI t ≤ 1 := fun t => by cases t <;> decide
  have h2 : oneI (decide (a < b)) + oneI (decide (b < a)) + oneI (a == b) = 1 := by
    unfold oneI
    rcases Int.lt_trichotomy a b with h | h | h
    · have e2 : ¬ b < a := by omega
      have e3 : ¬ a = b := by omega
      simp [h, e2, e3]
    · subst h; simp
    · have e2 : ¬ a < b := by omega
      have e3 : ¬ a = b := by omega
      simp [h, e2, e3]
  refine div_core a b _ (a.tmod b) _ _ _ _ w hb' (Lib.hid (first_any w ht)) (Lib.hid fun w => do_div a b w hb') (Lib.hid fun w => do_mod a b w hb') (Lib.hid (do_mul _ b)) (Lib.hid (ans_eq (do_add _ _) (quo_rem a b ra.1 ra.2)))
    (Lib.hid (do_lt a b)) (Lib.hid (do_lt b a)) (Lib.hid (do_eq a b)) (h1 _).1 (h1 _).2 (h1 _).1 (h1 _).2 (h1 _).1 (h1 _).2 (by rw [h2]; rfl) rb.1 rb.2 ?_ ?_
  · simp only [beq_iff_eq, beq_eq_false_iff_ne]
    omega
  · simp only [beq_iff_eq, beq_eq_false_iff_ne]
    omega
end Go.Proofs.YtmpkgbpnejajpaaDoor
