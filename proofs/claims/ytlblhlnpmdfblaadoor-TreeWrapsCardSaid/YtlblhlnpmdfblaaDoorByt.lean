/- The tests of single bytes. No conditions. -/
import Derived.Test.YtlblhlnpmdfblaaDoorWrd
import Derived.WalkKit
import Derived.WalkSpells
import Derived.WalkLawsBesides
namespace Go.Proofs.YtlblhlnpmdfblaaDoor
open Go.RowKit
def smI (c : Int) : Bool := decide (97 ≤ c) && decide (c ≤ 122)
def grI (c : Int) : Bool := decide (65 ≤ c) && decide (c ≤ 90)
def dgI (c : Int) : Bool := decide (48 ≤ c) && decide (c ≤ 57)
theorem isSpace_any (c : Int) (w : World) : Calls Tryd.prog 24 #[.int .u8 c] w fun e w' => e = .returned (.bool (spI c)) ∧ w = w' := by
  cases h0 : (c == 32) <;> cases h1 : (c == 9) <;> cases h2 : (c == 10) <;> cases h3 : (c == 13)
  all_goals
    go_enter Tryd.func24, Tryd.ntmps24
    go_wp2_with fail
    go_ret
    exact ⟨by simp [spI, h0, h1, h2, h3], rfl⟩
theorem isBracket_any (c : Int) (w : World) : Calls Tryd.prog 35 #[.int .u8 c] w fun e w' => e = .returned (.bool (brI c)) ∧ w = w' := by
  cases h0 : (c == 40) <;> cases h1 : (c == 41)
  all_goals
    go_enter Tryd.func35, Tryd.ntmps35
    go_wp2_with fail
    go_ret
    exact ⟨by simp [brI, h0, h1], rfl⟩
end Go.Proofs.YtlblhlnpmdfblaaDoor
