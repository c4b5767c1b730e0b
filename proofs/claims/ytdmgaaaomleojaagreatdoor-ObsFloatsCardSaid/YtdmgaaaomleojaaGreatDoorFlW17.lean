/- W17 of stage 1: floats. -/
import Derived.Test.YtdmgaaaomleojaaGreatDoorFlW16
namespace Go.Proofs.YtdmgaaaomleojaaGreatDoor.Fl
open Go.RowKit Ieee
def Ret2 (a b : Value) (w : World) (e : Ending) (w' : World) : Prop := e = .returned (.tuple #[a, b]) ∧ Below w.heap.size w w'
set_option maxRecDepth 100000 in
set_option maxHeartbeats 1000000 in
theorem guess_nan (s : ByteArray) (w : World) (h1 : (s.toList == [110, 97, 110]) = true) :
    Calls Tryz.prog 70 #[.string s] w (Ret2 (.int .u64 9221120237041090560) (.bool true) w) := by
  go_enter Tryz.func70, Tryz.ntmps70
  go_wp2_with fail
  go_ret2
  exact ⟨rfl, Below.refl _ _⟩
set_option maxRecDepth 100000 in
set_option maxHeartbeats 1000000 in
theorem guess_inf (s : ByteArray) (w : World) (h1 : (s.toList == [110, 97, 110]) = false) (h2 : (s.toList == [105, 110, 102]) = true) :
    Calls Tryz.prog 70 #[.string s] w (Ret2 (.int .u64 9218868437227405312) (.bool true) w) := by
  have tb2 : ∀ w, (callFunc 77 #[.float .f64 9218868437227405312]).run Tryz.prog w = .ok (.value (.int .u64 9218868437227405312)) w := fun w => to_bits 9218868437227405312 w
  go_enter Tryz.func70, Tryz.ntmps70
  go_wp2_with fail
  refine (inf_pos _).mono ?_
  rintro e w' ⟨rfl, rfl⟩
  go_wp2_with fail
  go_ret2
  exact ⟨rfl, Below.refl _ _⟩
set_option maxRecDepth 100000 in
set_option maxHeartbeats 1000000 in
theorem guess_minus (s : ByteArray) (w : World) (h1 : (s.toList == [110, 97, 110]) = false) (h2 : (s.toList == [105, 110, 102]) = false) (h3 : (s.toList == [45, 105, 110, 102]) = true) :
    Calls Tryz.prog 70 #[.string s] w (Ret2 (.int .u64 18442240474082181120) (.bool true) w) := by
  have tb3 : ∀ w, (callFunc 77 #[.float .f64 18442240474082181120]).run Tryz.prog w = .ok (.value (.int .u64 18442240474082181120)) w := fun w => to_bits 18442240474082181120 w
  go_enter Tryz.func70, Tryz.ntmps70
  go_wp2_with fail
  refine (inf_neg _).mono ?_
  rintro e w' ⟨rfl, rfl⟩
  go_wp2_with fail
  go_ret2
  exact ⟨rfl, Below.refl _ _⟩
/-- None of the three words. -/
structure Plain (s : ByteArray) : Prop where
  h1 : (s.toList == [110, 97, 110]) = false
  h2 : (s.toList == [105, 110, 102]) = false
  h3 : (s.toList == [45, 105, 110, 102]) = false
set_option maxRecDepth 100000 in
set_option maxHeartbeats 1000000 in
theorem guess_long (s : ByteArray) (w : World) (h : Plain s) (hl : 23 < s.size) :
    Calls Tryz.prog 70 #[.string s] w (Ret2 (.int .u64 0) (.bool false) w) := by
  obtain ⟨h1, h2, h3⟩ := h
  go_enter Tryz.func70, Tryz.ntmps70
  go_wp2_with fail
  go_ret2
  exact ⟨rfl, Below.refl _ _⟩
set_option maxRecDepth 100000 in
set_option maxHeartbeats 1000000 in
theorem guess_fell1 (s t x y : ByteArray) (mi b : Bool) (w : World) (h : Plain s) (hl : s.size ≤ 23)
    (c1 : ∀ w, Calls Tryz.prog 30 #[.string s, .string ⟨#[45]⟩] w fun e w' => e = .returned (.tuple #[.string t, .bool mi]) ∧ w' = w)
    (c2 : ∀ w, Calls Tryz.prog 17 #[.string t, .string ⟨#[112]⟩] w fun e w' => e = .returned (.tuple #[.string x, .string y, .bool b]) ∧ Below w.heap.size w w')
    (c3 : ∀ w1, Below w.heap.size w w1 → Calls Tryz.prog 88 #[.string x, .int .i64 10, .int .i64 53] w1 (Fell .u64 w1)) :
    Calls Tryz.prog 70 #[.string s] w (Ret2 (.int .u64 0) (.bool false) w) := by
  obtain ⟨h1, h2, h3⟩ := h
  have C1 := Lib.hid c1
  have C2 := Lib.hid c2
  have C3 := Lib.hid c3
  clear c1 c2 c3
  go_enter Tryz.func70, Tryz.ntmps70
  go_wp2_with fail
  refine (C1.out _).mono ?_
  rintro e w' ⟨rfl, rfl⟩
  go_wp2_with fail
  refine (C2.out _).mono ?_
  rintro e w1 ⟨rfl, hb1⟩
  go_wp2_with fail
  refine (C3.out _ hb1).mono ?_
  rintro e w2 ⟨xx, N, rfl, hb2⟩
  go_wp2_with fail
  go_ret2
  exact ⟨rfl, hb1.trans (hb2.mono hb1.size)⟩
set_option maxRecDepth 100000 in
set_option maxHeartbeats 1000000 in
theorem guess_fell2 (s t x y : ByteArray) (mi b : Bool) (m : Nat) (w : World) (h : Plain s) (hl : s.size ≤ 23)
    (c1 : ∀ w, Calls Tryz.prog 30 #[.string s, .string ⟨#[45]⟩] w fun e w' => e = .returned (.tuple #[.string t, .bool mi]) ∧ w' = w)
    (c2 : ∀ w, Calls Tryz.prog 17 #[.string t, .string ⟨#[112]⟩] w fun e w' => e = .returned (.tuple #[.string x, .string y, .bool b]) ∧ Below w.heap.size w w')
    (c3 : ∀ w1, Below w.heap.size w w1 → Calls Tryz.prog 88 #[.string x, .int .i64 10, .int .i64 53] w1 (Grew (.tuple #[.int .u64 m, .nilIface]) w1))
    (c4 : ∀ w1, Below w.heap.size w w1 → Calls Tryz.prog 69 #[.string y, .int .i64 10, .int .i64 16] w1 (Fell .i64 w1)) :
    Calls Tryz.prog 70 #[.string s] w (Ret2 (.int .u64 0) (.bool false) w) := by
  obtain ⟨h1, h2, h3⟩ := h
  have C1 := Lib.hid c1
  have C2 := Lib.hid c2
  have C3 := Lib.hid c3
  have C4 := Lib.hid c4
  clear c1 c2 c3 c4
  go_enter Tryz.func70, Tryz.ntmps70
  go_wp2_with fail
  refine (C1.out _).mono ?_
  rintro e w' ⟨rfl, rfl⟩
  go_wp2_with fail
  refine (C2.out _).mono ?_
  rintro e w1 ⟨rfl, hb1⟩
  go_wp2_with fail
  refine (C3.out _ hb1).mono ?_
  rintro e w2 ⟨rfl, hb2⟩
  have hb12 := hb1.trans (hb2.mono hb1.size)
  go_wp2_with fail
  refine (C4.out _ hb12).mono ?_
  rintro e w3 ⟨xx, N, rfl, hb3⟩
  go_wp2_with fail
  go_ret2
  exact ⟨rfl, hb12.trans (hb3.mono hb12.size)⟩
set_option maxRecDepth 100000 in
set_option maxHeartbeats 1000000 in
theorem guess_ok (s t x y : ByteArray) (mi b : Bool) (m r : Nat) (n : Int) (w : World) (h : Plain s) (hl : s.size ≤ 23)
    (hf : floatOfInt .f64 (m : Int) = ofI (m : Int))
    (c1 : ∀ w, Calls Tryz.prog 30 #[.string s, .string ⟨#[45]⟩] w fun e w' => e = .returned (.tuple #[.string t, .bool mi]) ∧ w' = w)
    (c2 : ∀ w, Calls Tryz.prog 17 #[.string t, .string ⟨#[112]⟩] w fun e w' => e = .returned (.tuple #[.string x, .string y, .bool b]) ∧ Below w.heap.size w w')
    (c3 : ∀ w1, Below w.heap.size w w1 → Calls Tryz.prog 88 #[.string x, .int .i64 10, .int .i64 53] w1 (Grew (.tuple #[.int .u64 m, .nilIface]) w1))
    (c4 : ∀ w1, Below w.heap.size w w1 → Calls Tryz.prog 69 #[.string y, .int .i64 10, .int .i64 16] w1 (Grew (.tuple #[.int .i64 n, .nilIface]) w1))
    (c5 : ∀ w, Calls Tryz.prog 89 #[.float .f64 (ofI (m : Int)), .int .i64 n] w fun e' w' => e' = .returned (.float .f64 r) ∧ w = w') :
    Calls Tryz.prog 70 #[.string s] w (Ret2 (.int .u64 (if mi then flipN r else r : Nat)) (.bool true) w) := by
  obtain ⟨h1, h2, h3⟩ := h
  have C1 := Lib.hid c1
  have C2 := Lib.hid c2
  have C3 := Lib.hid c3
  have C4 := Lib.hid c4
  have C5 := Lib.hid c5
  clear c1 c2 c3 c4 c5
  have tb := to_bits
  have hneg := neg_run
  cases mi
  all_goals
    go_enter Tryz.func70, Tryz.ntmps70
    go_wp2_with fail
    refine (C1.out _).mono ?_
    rintro e w' ⟨rfl, rfl⟩
    go_wp2_with fail
    refine (C2.out _).mono ?_
    rintro e w1 ⟨rfl, hb1⟩
    go_wp2_with fail
    refine (C3.out _ hb1).mono ?_
    rintro e w2 ⟨rfl, hb2⟩
    have hb12 := hb1.trans (hb2.mono hb1.size)
    go_wp2_with fail
    refine (C4.out _ hb12).mono ?_
    rintro e w3 ⟨rfl, hb3⟩
    have hb13 := hb12.trans (hb3.mono hb12.size)
    go_wp2_with fail
    refine (C5.out _).mono ?_
    rintro e w' ⟨rfl, rfl⟩
    go_wp2_with fail
    go_ret2
    exact ⟨rfl, hb13⟩
end Go.Proofs.YtdmgaaaomleojaaGreatDoor.Fl
