/- first, called: it answers true, and what lay in memory stands. Conditions: the listed variables read as start-up lays them. -/
import Derived.Test.YtledjcplbldokaaGreatDoorSynOwnD
import Derived.Test.YtledjcplbldokaaGreatDoorClone
import Derived.Test.YtledjcplbldokaaGreatDoorBld
import Derived.Test.YtledjcplbldokaaGreatDoorIdx
import Derived.Test.YtledjcplbldokaaGreatDoorAsOk
namespace Go.Proofs.YtledjcplbldokaaGreatDoor
open Go.Ex
theorem synOwn_r : synOwn_run = true := by kernel_rfl
theorem synOwn_first (W : World) (ht : ∀ sy : Nat → Value, ∃ size ea ez, Starts sy (gsFrom 278 synOwn_tabs 1024 synOwn_errs) (esFrom 1024 synOwn_errs) W size ea ez) :
    Calls Tryz.prog 4 #[] W fun e w' => e = .returned (.bool true) ∧ Go.RowKit.Below W.heap.size W w' := by
  obtain ⟨size, ea, ez, hs⟩ := ht (fun _ => .int .i64 0)
  have hrun := synOwn_r
  unfold synOwn_run at hrun
  obtain ⟨s', hrun⟩ := isT_some hrun
  refine closedF hs (hAs_ok (hIdx_ok (hStr_ok (hCopy_ok (hClone_ok (hClone_ok .none (fun s w h => clone_any s w h) ⟨_, Tryz.func75, by kernel_rfl, by kernel_rfl⟩) (fun s w h => lite_clone s w h) ⟨_, Tryz.func113, by kernel_rfl, by kernel_rfl⟩) bld_ok) bld_ok) (fun s c w => idx_any s c w) ⟨_, Tryz.func207, by kernel_rfl, by kernel_rfl⟩) as_ok (by decide) (by decide)) hrun ?_
  rfl
end Go.Proofs.YtledjcplbldokaaGreatDoor
