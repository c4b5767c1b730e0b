/- first, called: it answers true, and what lay in memory stands. Conditions: the listed variables read as start-up lays them. -/
import Derived.Test.YtlniackafagajaaDoorFreeFreshD
namespace Go.Proofs.YtlniackafagajaaDoor
open Go.Ex
theorem freeFresh_r : freeFresh_run = true := by kernel_rfl
theorem freeFresh_first (W : World) (ht : ∀ sy : Nat → Value, ∃ size ea ez, Starts sy (gsFrom 0 freeFresh_tabs 1024 freeFresh_errs) (esFrom 1024 freeFresh_errs) W size ea ez) :
    Calls Tryd.prog 4 #[] W fun e w' => e = .returned (.bool true) ∧ Go.RowKit.Below W.heap.size W w' := by
  obtain ⟨size, ea, ez, hs⟩ := ht (fun _ => .int .i64 0)
  have hrun := freeFresh_r
  unfold freeFresh_run at hrun
  obtain ⟨s', hrun⟩ := isT_some hrun
  refine closedF hs .none hrun ?_
  rfl
end Go.Proofs.YtlniackafagajaaDoor
