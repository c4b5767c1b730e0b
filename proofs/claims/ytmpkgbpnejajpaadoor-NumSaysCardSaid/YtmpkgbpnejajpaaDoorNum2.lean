/- gristmillref1.NumDo, of any name and numbers: as num.Do. Conditions: numbers of 64 bits. -/
import Derived.Test.YtmpkgbpnejajpaaDoorNum1
namespace Go.Proofs.YtmpkgbpnejajpaaDoor
open Go.RowKit

theorem rdo_add (a b : Int) (w : World) :
    Calls Tryd.prog 10 #[.string ⟨#[43]⟩, .int .i64 a, .int .i64 b] w fun e w' => e = .returned (.tuple #[.int .i64 (wrap64 (a + b)), .int .i64 0, .bool true]) ∧ w = w' := by
  go_enter Tryd.func10, Tryd.ntmps10
  go_wp2_with fail
  go_ret3
  exact ⟨rfl, rfl⟩
theorem rdo_sub (a b : Int) (w : World) :
    Calls Tryd.prog 10 #[.string ⟨#[45]⟩, .int .i64 a, .int .i64 b] w fun e w' => e = .returned (.tuple #[.int .i64 (wrap64 (a - b)), .int .i64 0, .bool true]) ∧ w = w' := by
  go_enter Tryd.func10, Tryd.ntmps10
  go_wp2_with fail
  go_ret3
  exact ⟨rfl, rfl⟩
theorem rdo_mul (a b : Int) (w : World) :
    Calls Tryd.prog 10 #[.string ⟨#[42]⟩, .int .i64 a, .int .i64 b] w fun e w' => e = .returned (.tuple #[.int .i64 (wrap64 (a * b)), .int .i64 0, .bool true]) ∧ w = w' := by
  go_enter Tryd.func10, Tryd.ntmps10
  go_wp2_with fail
  go_ret3
  exact ⟨rfl, rfl⟩
theorem rdo_div0 (a : Int) (w : World) :
    Calls Tryd.prog 10 #[.string ⟨#[100, 105, 118]⟩, .int .i64 a, .int .i64 0] w fun e w' => e = .returned (.tuple #[.int .i64 0, .int .i64 (-2), .bool true]) ∧ w = w' := by
  go_enter Tryd.func10, Tryd.ntmps10
  go_wp2_with fail
  go_ret3
  exact ⟨rfl, rfl⟩
theorem rdo_mod0 (a : Int) (w : World) :
    Calls Tryd.prog 10 #[.string ⟨#[109, 111, 100]⟩, .int .i64 a, .int .i64 0] w fun e w' => e = .returned (.tuple #[.int .i64 0, .int .i64 (-2), .bool true]) ∧ w = w' := by
  go_enter Tryd.func10, Tryd.ntmps10
  go_wp2_with fail
  go_ret3
  exact ⟨rfl, rfl⟩
theorem rdo_divm (a : Int) (w : World) :
    Calls Tryd.prog 10 #[.string ⟨#[100, 105, 118]⟩, .int .i64 a, .int .i64 (-1)] w fun e w' => e = .returned (.tuple #[.int .i64 (wrap64 (-a)), .int .i64 0, .bool true]) ∧ w = w' := by
  go_enter Tryd.func10, Tryd.ntmps10
  go_wp2_with fail
  go_ret3
  exact ⟨rfl, rfl⟩
theorem rdo_modm (a : Int) (w : World) :
    Calls Tryd.prog 10 #[.string ⟨#[109, 111, 100]⟩, .int .i64 a, .int .i64 (-1)] w fun e w' => e = .returned (.tuple #[.int .i64 0, .int .i64 0, .bool true]) ∧ w = w' := by
  go_enter Tryd.func10, Tryd.ntmps10
  go_wp2_with fail
  go_ret3
  exact ⟨rfl, rfl⟩
theorem rdo_div (a b : Int) (w : World) (hb : (b == 0) = false) (hb0 : ¬ b = 0) (hm : (b == -1) = false) :
    Calls Tryd.prog 10 #[.string ⟨#[100, 105, 118]⟩, .int .i64 a, .int .i64 b] w fun e w' => e = .returned (.tuple #[.int .i64 (wrap64 (a.tdiv b)), .int .i64 0, .bool true]) ∧ w = w' := by
  go_enter Tryd.func10, Tryd.ntmps10
  go_wp2_with fail
  go_ret3
  exact ⟨rfl, rfl⟩
theorem rdo_mod (a b : Int) (w : World) (hb : (b == 0) = false) (hb0 : ¬ b = 0) (hm : (b == -1) = false) :
    Calls Tryd.prog 10 #[.string ⟨#[109, 111, 100]⟩, .int .i64 a, .int .i64 b] w fun e w' => e = .returned (.tuple #[.int .i64 (a.tmod b), .int .i64 0, .bool true]) ∧ w = w' := by
  go_enter Tryd.func10, Tryd.ntmps10
  go_wp2_with fail
  go_ret3
  exact ⟨rfl, rfl⟩
theorem rdo_lt (a b : Int) (w : World) :
    Calls Tryd.prog 10 #[.string ⟨#[60]⟩, .int .i64 a, .int .i64 b] w fun e w' => e = .returned (.tuple #[.int .i64 (oneI (decide (a < b))), .int .i64 0, .bool true]) ∧ w = w' := by
  go_enter Tryd.func10, Tryd.ntmps10
  go_wp2_with fail
  refine (rone_any _ _).mono ?_
  rintro e w' ⟨rfl, rfl⟩
  go_wp2_with fail
  go_ret3
  exact ⟨rfl, rfl⟩
theorem rdo_eq (a b : Int) (w : World) :
    Calls Tryd.prog 10 #[.string ⟨#[61]⟩, .int .i64 a, .int .i64 b] w fun e w' => e = .returned (.tuple #[.int .i64 (oneI (a == b)), .int .i64 0, .bool true]) ∧ w = w' := by
  go_enter Tryd.func10, Tryd.ntmps10
  go_wp2_with fail
  refine (rone_any _ _).mono ?_
  rintro e w' ⟨rfl, rfl⟩
  go_wp2_with fail
  go_ret3
  exact ⟨rfl, rfl⟩
theorem rdo_none (name : ByteArray) (a b : Int) (w : World) (h1 : (name.toList == [43]) = false) (h2 : (name.toList == [45]) = false) (h3 : (name.toList == [42]) = false) (h4 : (name.toList == [100, 105, 118]) = false) (h5 : (name.toList == [109, 111, 100]) = false) (h6 : (name.toList == [60]) = false) (h7 : (name.toList == [61]) = false) :
    Calls Tryd.prog 10 #[.string name, .int .i64 a, .int .i64 b] w fun e w' => e = .returned (.tuple #[.int .i64 0, .int .i64 0, .bool false]) ∧ w = w' := by
  go_enter Tryd.func10, Tryd.ntmps10
  go_wp2_with fail
  go_ret3
  exact ⟨rfl, rfl⟩

/-- DO, of any name: the program's and the document's. -/
theorem do_both (name : ByteArray) (a b : Int) : ∃ (x f : Int) (is : Bool), (∀ w, Calls Tryd.prog 9 #[.string name, .int .i64 a, .int .i64 b] w fun e w' => e = .returned (.tuple #[.int .i64 x, .int .i64 f, .bool is]) ∧ w = w')
    ∧ ∀ w, Calls Tryd.prog 10 #[.string name, .int .i64 a, .int .i64 b] w fun e w' => e = .returned (.tuple #[.int .i64 x, .int .i64 f, .bool is]) ∧ w = w' := by
  cases h1 : (name.toList == [43])
  case true => rw [ba_of _ _ h1]; exact ⟨_, _, _, do_add a b, rdo_add a b⟩
  cases h2 : (name.toList == [45])
  case true => rw [ba_of _ _ h2]; exact ⟨_, _, _, do_sub a b, rdo_sub a b⟩
  cases h3 : (name.toList == [42])
  case true => rw [ba_of _ _ h3]; exact ⟨_, _, _, do_mul a b, rdo_mul a b⟩
  cases h4 : (name.toList == [100, 105, 118])
  case true =>
    rw [ba_of _ _ h4]
    by_cases hb : b = 0
    · subst hb; exact ⟨_, _, _, do_div0 a, rdo_div0 a⟩
    by_cases hm : b = -1
    · subst hm
      have e : wrap64 (a.tdiv (-1)) = wrap64 (-a) := by rw [Int.tdiv_neg, Int.tdiv_one]
      refine ⟨_, _, _, fun w => ?_, rdo_divm a⟩
      have := do_div a (-1) w (by decide)
      rw [e] at this
      exact this
    · exact ⟨_, _, _, fun w => do_div a b w (by simpa using hb), fun w => rdo_div a b w (by simpa using hb) hb (by simpa using hm)⟩
  cases h5 : (name.toList == [109, 111, 100])
  case true =>
    rw [ba_of _ _ h5]
    by_cases hb : b = 0
    · subst hb; exact ⟨_, _, _, do_mod0 a, rdo_mod0 a⟩
    by_cases hm : b = -1
    · subst hm
      have e : a.tmod (-1) = 0 := by rw [Int.tmod_neg, Int.tmod_one]
      refine ⟨_, _, _, fun w => ?_, rdo_modm a⟩
      have := do_mod a (-1) w (by decide)
      rw [e] at this
      exact this
    · exact ⟨_, _, _, fun w => do_mod a b w (by simpa using hb), fun w => rdo_mod a b w (by simpa using hb) hb (by simpa using hm)⟩
  cases h6 : (name.toList == [60])
  case true => rw [ba_of _ _ h6]; exact ⟨_, _, _, do_lt a b, rdo_lt a b⟩
  cases h7 : (name.toList == [61])
  case true => rw [ba_of _ _ h7]; exact ⟨_, _, _, do_eq a b, rdo_eq a b⟩
  exact ⟨_, _, _, fun w => do_none name a b w h1 h2 h3 h4 h5 h6 h7, fun w => rdo_none name a b w h1 h2 h3 h4 h5 h6 h7⟩
end Go.Proofs.YtmpkgbpnejajpaaDoor
