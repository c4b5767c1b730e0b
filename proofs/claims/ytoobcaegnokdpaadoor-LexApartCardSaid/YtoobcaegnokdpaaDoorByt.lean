/- The tests of single bytes. No conditions. -/
import Derived.Test.YtoobcaegnokdpaaDoorWrd
import Derived.WalkKit
import Derived.WalkSpells
import Derived.WalkLawsBesides
namespace Go.Proofs.YtoobcaegnokdpaaDoor
open Go.RowKit
def smI (c : Int) : Bool := decide (97 ≤ c) && decide (c ≤ 122)
def grI (c : Int) : Bool := decide (65 ≤ c) && decide (c ≤ 90)
def dgI (c : Int) : Bool := decide (48 ≤ c) && decide (c ≤ 57)
theorem isSpace_any (c : Int) (w : World) : Calls Tryd.prog 17 #[.int .u8 c] w fun e w' => e = .returned (.bool (spI c)) ∧ w = w' := by
  cases h0 : (c == 32) <;> cases h1 : (c == 9) <;> cases h2 : (c == 10) <;> cases h3 : (c == 13)
  all_goals
    go_enter Tryd.func17, Tryd.ntmps17
    go_wp2_with fail
    go_ret
    exact ⟨by simp [spI, h0, h1, h2, h3], rfl⟩
theorem rspace_any (c : Int) (w : World) : Calls Tryd.prog 21 #[.int .u8 c] w fun e w' => e = .returned (.bool (spI c)) ∧ w = w' := by
  cases h0 : (c == 32) <;> cases h1 : (c == 9) <;> cases h2 : (c == 10) <;> cases h3 : (c == 13)
  all_goals
    go_enter Tryd.func21, Tryd.ntmps21
    go_wp2_with fail
    go_ret
    exact ⟨by simp [spI, h0, h1, h2, h3], rfl⟩
theorem isBracket_any (c : Int) (w : World) : Calls Tryd.prog 30 #[.int .u8 c] w fun e w' => e = .returned (.bool (brI c)) ∧ w = w' := by
  cases h0 : (c == 40) <;> cases h1 : (c == 41)
  all_goals
    go_enter Tryd.func30, Tryd.ntmps30
    go_wp2_with fail
    go_ret
    exact ⟨by simp [brI, h0, h1], rfl⟩
theorem isSmall_any (c : Int) (w : World) : Calls Tryd.prog 23 #[.int .u8 c] w fun e w' => e = .returned (.bool (smI c)) ∧ w = w' := by
  cases h0 : decide (97 ≤ c) <;> cases h1 : decide (c ≤ 122)
  all_goals
    go_enter Tryd.func23, Tryd.ntmps23
    go_wp2_with fail
    go_ret
    exact ⟨by simp [smI, h0, h1], rfl⟩
theorem isGreat_any (c : Int) (w : World) : Calls Tryd.prog 27 #[.int .u8 c] w fun e w' => e = .returned (.bool (grI c)) ∧ w = w' := by
  cases h0 : decide (65 ≤ c) <;> cases h1 : decide (c ≤ 90)
  all_goals
    go_enter Tryd.func27, Tryd.ntmps27
    go_wp2_with fail
    go_ret
    exact ⟨by simp [grI, h0, h1], rfl⟩
theorem isDigit_any (c : Int) (w : World) : Calls Tryd.prog 32 #[.int .u8 c] w fun e w' => e = .returned (.bool (dgI c)) ∧ w = w' := by
  cases h0 : decide (48 ≤ c) <;> cases h1 : decide (c ≤ 57)
  all_goals
    go_enter Tryd.func32, Tryd.ntmps32
    go_wp2_with fail
    go_ret
    exact ⟨by simp [dgI, h0, h1], rfl⟩
end Go.Proofs.YtoobcaegnokdpaaDoor
