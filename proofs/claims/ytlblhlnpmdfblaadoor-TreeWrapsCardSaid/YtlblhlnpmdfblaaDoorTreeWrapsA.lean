/- first, called: it answers true, and what lay in memory stands. Conditions: the listed variables read as start-up lays them. -/
import Derived.Test.YtlblhlnpmdfblaaDoorTreeWrapsD
import Derived.Test.YtlblhlnpmdfblaaDoorClone
import Derived.Test.YtlblhlnpmdfblaaDoorBld
namespace Go.Proofs.YtlblhlnpmdfblaaDoor
open Go.Ex
theorem treeWraps_r : treeWraps_run = true := by kernel_rfl
theorem treeWraps_first (W : World) (ht : ∀ sy : Nat → Value, ∃ size ea ez, Starts sy (gsFrom 82 treeWraps_tabs 1024 treeWraps_errs) (esFrom 1024 treeWraps_errs) W size ea ez) :
    Calls Tryd.prog 6 #[] W fun e w' => e = .returned (.bool true) ∧ Go.RowKit.Below W.heap.size W w' := by
  obtain ⟨size, ea, ez, hs⟩ := ht (fun _ => .int .i64 0)
  have hrun := treeWraps_r
  unfold treeWraps_run at hrun
  obtain ⟨s', hrun⟩ := isT_some hrun
  refine closedF hs (hStr_ok (hCopy_ok (hClone_ok .none (fun s w h => clone_any s w h) ⟨_, Tryd.func27, by kernel_rfl, by kernel_rfl⟩) bld_ok) bld_ok) hrun ?_
  rfl
end Go.Proofs.YtlblhlnpmdfblaaDoor
