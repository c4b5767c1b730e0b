/- first, called: it answers true, and what lay in memory stands. Conditions: the listed variables read as start-up lays them. -/
import Derived.Test.YtoidogfnjpmceaaDoorGrinOwnD
namespace Go.Proofs.YtoidogfnjpmceaaDoor
open Go.Ex
theorem grinOwn_r : grinOwn_run = true := by kernel_rfl
theorem grinOwn_first (W : World) (ht : ∀ sy : Nat → Value, ∃ size ea ez, Starts sy (gsFrom 172 grinOwn_tabs 1024 grinOwn_errs) (esFrom 1024 grinOwn_errs) W size ea ez) :
    Calls Tryd.prog 7 #[] W fun e w' => e = .returned (.bool true) ∧ Go.RowKit.Below W.heap.size W w' := by
  obtain ⟨size, ea, ez, hs⟩ := ht (fun _ => .int .i64 0)
  have hrun := grinOwn_r
  unfold grinOwn_run at hrun
  obtain ⟨s', hrun⟩ := isT_some hrun
  refine closedF hs .none hrun ?_
  rfl
end Go.Proofs.YtoidogfnjpmceaaDoor
