/- flo.Do and flo.Is at each of their names: what they answer. No conditions. -/
import Derived.Test.YtpdiajagdehfkaaDoorW1
namespace Go.Proofs.YtpdiajagdehfkaaDoor
open Go.RowKit Ieee

/-- What 'Do' answers: the canonical one of the operation's result. -/
def fopO (r : Option Nat) : Nat := match r with | some r => canonN r | none => 9221120237041090560
def fop (op : BinOp) (x y : Nat) : Nat := fopO (floatBits op .f64 x y)

theorem lt_of_map_write (d : Option Datum) (r : Nat) (h : d.map Ieee.double.write = some r) : r < 18446744073709551616 := Ieee.double.map_write_lt h

theorem floatBits_lt {op : BinOp} {x y r : Nat} (h : floatBits op .f64 x y = some r) : r < 18446744073709551616 := by
  have := floatBits_wf h
  simpa [Lit.wf] using this

theorem nan_drawn (t : Nat) : nanB ((t % 2) * 2 ^ 63 + 0x7ff0000000000000 + 1 + (t / 2) % (2 ^ 52 - 1)) = true := by
  unfold nanB
  rw [decide_eq_true_eq]
  generalize hq : (t / 2) % (2 ^ 52 - 1) = q
  have h1 : q < 4503599627370495 := by rw [← hq]; exact Nat.mod_lt _ (by decide)
  have h2 : t % 2 = 0 ∨ t % 2 = 1 := by omega
  rcases h2 with h2 | h2 <;> rw [h2] <;> simp only [Nat.zero_mul, Nat.one_mul, Nat.reducePow] <;> omega

theorem nan_drawn_lt (t : Nat) : (t % 2) * 2 ^ 63 + 0x7ff0000000000000 + 1 + (t / 2) % (2 ^ 52 - 1) < 18446744073709551616 := by
  generalize hq : (t / 2) % (2 ^ 52 - 1) = q
  have h1 : q < 4503599627370495 := by rw [← hq]; exact Nat.mod_lt _ (by decide)
  have h2 : t % 2 = 0 ∨ t % 2 = 1 := by omega
  rcases h2 with h2 | h2 <;> rw [h2] <;> simp only [Nat.zero_mul, Nat.one_mul, Nat.reducePow] <;> omega

theorem run_float_any (P : Program) (op : BinOp) (t : TypeId) (x y : Nat) (w : World) (hop : op = .add ∨ op = .sub ∨ op = .mul ∨ op = .quo) :
    ∃ r n, r < 18446744073709551616 ∧ canonN r = fop op x y ∧ (binOp op t (.float .f64 x) (.float .f64 y)).run P w = .ok (.float .f64 r) (w.drewN n) := by
  cases h : floatBits op .f64 x y with
  | some r =>
    refine ⟨r, 0, floatBits_lt h, ?_, ?_⟩
    · unfold fop fopO; rw [h]
    · rw [run_float_arith w op t .f64 x y r h]; rfl
  | none =>
    refine ⟨_, 1, nan_drawn_lt (w.tape w.drawn (.nanBits .f64 x y)), ?_, ?_⟩
    · unfold fop fopO canonN; rw [h, nan_drawn]; rfl
    · unfold floatBits at h
      rcases hop with rfl | rfl | rfl | rfl <;> simp only at h <;> simp [binOp, Op.floatArith, h, Question.forced, Question.cut] <;> rfl

def Drew (v : Value) (w : World) (e : Ending) (w' : World) : Prop := ∃ n, e = .returned v ∧ w' = w.drewN n

set_option maxRecDepth 100000 in
set_option maxHeartbeats 400000 in
theorem do_add (a b : Nat) (w : World) :
    Calls Tryd.prog 11 #[.string ⟨#[102, 43]⟩, .int .u64 a, .int .u64 b] w (Drew (.tuple #[.int .u64 (fop .add a b : Nat), .bool true]) w) := by
  obtain ⟨r, n, _, hc, hrun⟩ := run_float_any Tryd.prog .add 42 a b w (by simp)
  have HC := Lib.hid hc
  clear hc
  have fb := from_bits
  have tb := to_bits
  refine Calls.mono (R := fun e w' => e = .returned (.tuple #[.int .u64 (canonN r : Nat), .bool true]) ∧ w' = w.drewN n) ?_ fun e w' ⟨he, hw⟩ => ⟨n, by rw [he, HC.out], hw⟩
  go_enter Tryd.func11, Tryd.ntmps11
  go_wp2_with (go_at_call 20; refine (canon_any _ _).mono ?_; rintro e w' ⟨rfl, rfl⟩)
  go_ret2
  exact ⟨rfl, rfl⟩

set_option maxRecDepth 100000 in
set_option maxHeartbeats 400000 in
theorem do_sub (a b : Nat) (w : World) :
    Calls Tryd.prog 11 #[.string ⟨#[102, 45]⟩, .int .u64 a, .int .u64 b] w (Drew (.tuple #[.int .u64 (fop .sub a b : Nat), .bool true]) w) := by
  obtain ⟨r, n, _, hc, hrun⟩ := run_float_any Tryd.prog .sub 42 a b w (by simp)
  have HC := Lib.hid hc
  clear hc
  have fb := from_bits
  have tb := to_bits
  refine Calls.mono (R := fun e w' => e = .returned (.tuple #[.int .u64 (canonN r : Nat), .bool true]) ∧ w' = w.drewN n) ?_ fun e w' ⟨he, hw⟩ => ⟨n, by rw [he, HC.out], hw⟩
  go_enter Tryd.func11, Tryd.ntmps11
  go_wp2_with (go_at_call 20; refine (canon_any _ _).mono ?_; rintro e w' ⟨rfl, rfl⟩)
  go_ret2
  exact ⟨rfl, rfl⟩

set_option maxRecDepth 100000 in
set_option maxHeartbeats 400000 in
theorem do_mul (a b : Nat) (w : World) :
    Calls Tryd.prog 11 #[.string ⟨#[102, 42]⟩, .int .u64 a, .int .u64 b] w (Drew (.tuple #[.int .u64 (fop .mul a b : Nat), .bool true]) w) := by
  obtain ⟨r, n, _, hc, hrun⟩ := run_float_any Tryd.prog .mul 42 a b w (by simp)
  have HC := Lib.hid hc
  clear hc
  have fb := from_bits
  have tb := to_bits
  refine Calls.mono (R := fun e w' => e = .returned (.tuple #[.int .u64 (canonN r : Nat), .bool true]) ∧ w' = w.drewN n) ?_ fun e w' ⟨he, hw⟩ => ⟨n, by rw [he, HC.out], hw⟩
  go_enter Tryd.func11, Tryd.ntmps11
  go_wp2_with (go_at_call 20; refine (canon_any _ _).mono ?_; rintro e w' ⟨rfl, rfl⟩)
  go_ret2
  exact ⟨rfl, rfl⟩

set_option maxRecDepth 100000 in
set_option maxHeartbeats 400000 in
theorem do_div (a b : Nat) (w : World) :
    Calls Tryd.prog 11 #[.string ⟨#[102, 47]⟩, .int .u64 a, .int .u64 b] w (Drew (.tuple #[.int .u64 (fop .quo a b : Nat), .bool true]) w) := by
  obtain ⟨r, n, _, hc, hrun⟩ := run_float_any Tryd.prog .quo 42 a b w (by simp)
  have HC := Lib.hid hc
  clear hc
  have fb := from_bits
  have tb := to_bits
  refine Calls.mono (R := fun e w' => e = .returned (.tuple #[.int .u64 (canonN r : Nat), .bool true]) ∧ w' = w.drewN n) ?_ fun e w' ⟨he, hw⟩ => ⟨n, by rw [he, HC.out], hw⟩
  go_enter Tryd.func11, Tryd.ntmps11
  go_wp2_with (go_at_call 20; refine (canon_any _ _).mono ?_; rintro e w' ⟨rfl, rfl⟩)
  go_ret2
  exact ⟨rfl, rfl⟩

def ltB (a b : Nat) : Bool := Ieee.double.order a b == some .lt

set_option maxRecDepth 100000 in
set_option maxHeartbeats 400000 in
theorem is_lt (a b : Nat) (w : World) :
    Calls Tryd.prog 13 #[.string ⟨#[102, 60]⟩, .int .u64 a, .int .u64 b] w fun e w' => e = .returned (.tuple #[.bool (ltB a b), .bool true]) ∧ w = w' := by
  have fb := from_bits
  have tb := to_bits
  have HB := Lib.hid (show (FloatKind.f64.format.order a b == some .lt) = ltB a b from rfl)
  refine Calls.mono (R := fun e w' => e = .returned (.tuple #[.bool (FloatKind.f64.format.order a b == some .lt), .bool true]) ∧ w = w') ?_ fun e w' ⟨he, hw⟩ => ⟨by rw [he, HB.out], hw⟩
  go_enter Tryd.func13, Tryd.ntmps13
  go_wp2
  go_ret2
  exact ⟨rfl, rfl⟩

def eqB (a b : Nat) : Bool := Ieee.double.order a b == some .eq

set_option maxRecDepth 100000 in
set_option maxHeartbeats 400000 in
theorem is_eq (a b : Nat) (w : World) :
    Calls Tryd.prog 13 #[.string ⟨#[102, 61]⟩, .int .u64 a, .int .u64 b] w fun e w' => e = .returned (.tuple #[.bool (eqB a b), .bool true]) ∧ w = w' := by
  have fb := from_bits
  have tb := to_bits
  have HB := Lib.hid (show (FloatKind.f64.format.order a b == some .eq) = eqB a b from rfl)
  refine Calls.mono (R := fun e w' => e = .returned (.tuple #[.bool (FloatKind.f64.format.order a b == some .eq), .bool true]) ∧ w = w') ?_ fun e w' ⟨he, hw⟩ => ⟨by rw [he, HB.out], hw⟩
  go_enter Tryd.func13, Tryd.ntmps13
  go_wp2
  go_ret2
  exact ⟨rfl, rfl⟩


end Go.Proofs.YtpdiajagdehfkaaDoor
