/- first, called: it answers true, and what lay in memory stands. Conditions: the listed variables read as start-up lays them. -/
import Derived.Test.YtkfoohhnfaohfaaGreatDoorLiftFlatD
import Derived.Test.YtkfoohhnfaohfaaGreatDoorBld
namespace Go.Proofs.YtkfoohhnfaohfaaGreatDoor
open Go.Ex
theorem liftFlat_r : liftFlat_run = true := by kernel_rfl
theorem liftFlat_first (W : World) (ht : ∀ sy : Nat → Value, ∃ size ea ez, Starts sy (gsFrom 208 liftFlat_tabs 1024 liftFlat_errs) (esFrom 1024 liftFlat_errs) W size ea ez) :
    Calls Tryz.prog 4 #[] W fun e w' => e = .returned (.bool true) ∧ Go.RowKit.Below W.heap.size W w' := by
  obtain ⟨size, ea, ez, hs⟩ := ht (fun _ => .int .i64 0)
  have hrun := liftFlat_r
  unfold liftFlat_run at hrun
  obtain ⟨s', hrun⟩ := isT_some hrun
  refine closedF hs (hStr_ok (hCopy_ok .none bld_ok) bld_ok) hrun ?_
  rfl
end Go.Proofs.YtkfoohhnfaohfaaGreatDoor
