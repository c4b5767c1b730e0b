/- first, called: it answers true, and what lay in memory stands. Conditions: the listed variables read as start-up lays them. -/
import Derived.Test.YtdmgaaaomleojaaGreatDoorObsFloatsD
import Derived.Test.YtdmgaaaomleojaaGreatDoorClone
import Derived.Test.YtdmgaaaomleojaaGreatDoorBld
import Derived.Test.YtdmgaaaomleojaaGreatDoorIdx
namespace Go.Proofs.YtdmgaaaomleojaaGreatDoor
open Go.Ex
theorem obsFloats_r : obsFloats_run = true := by kernel_rfl
theorem obsFloats_first (W : World) (ht : ∀ sy : Nat → Value, ∃ size ea ez, Starts sy (gsFrom 147 obsFloats_tabs 1024 obsFloats_errs) (esFrom 1024 obsFloats_errs) W size ea ez) :
    Calls Tryz.prog 4 #[] W fun e w' => e = .returned (.bool true) ∧ Go.RowKit.Below W.heap.size W w' := by
  obtain ⟨size, ea, ez, hs⟩ := ht (fun _ => .int .i64 0)
  have hrun := obsFloats_r
  unfold obsFloats_run at hrun
  obtain ⟨s', hrun⟩ := isT_some hrun
  refine closedF hs (hIdx_ok (hStr_ok (hCopy_ok (hClone_ok (hClone_ok .none (fun s w h => clone_any s w h) ⟨_, Tryz.func47, by kernel_rfl, by kernel_rfl⟩) (fun s w h => lite_clone s w h) ⟨_, Tryz.func68, by kernel_rfl, by kernel_rfl⟩) bld_ok) bld_ok) (fun s c w => idx_any s c w) ⟨_, Tryz.func63, by kernel_rfl, by kernel_rfl⟩) hrun ?_
  rfl
end Go.Proofs.YtdmgaaaomleojaaGreatDoor
