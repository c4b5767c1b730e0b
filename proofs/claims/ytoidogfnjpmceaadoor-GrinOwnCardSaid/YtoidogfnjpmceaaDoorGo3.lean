/- GrinOwn: the law answers true. Conditions: the listed variables read as start-up lays them. -/
import Derived.Test.YtoidogfnjpmceaaDoorGo2
import Derived.Test.YtoidogfnjpmceaaDoorGrinOwnA
namespace Go.Proofs.YtoidogfnjpmceaaDoor
open Go.ChangeShapes Go.WideShapes Go.ChangeAt Go.RowKit

theorem grinOwn_any (v : Value) (x : Int) (_hx : (Lit.int .i64 x).wf = true) (W : World) (hp : ∃ fs : List Fn, SlAt W v fs.length fun b o => FnIn W fs b o) (ht : ∀ sy : Nat → Value, ∃ size ea ez, Ex.Starts sy (Ex.gsFrom 172 grinOwn_tabs 1024 grinOwn_errs) (Ex.esFrom 1024 grinOwn_errs) W size ea ez) :
    Calls Tryd.prog 4 #[v, .int .i64 x] W (Grew (.bool true) W) := by
  obtain ⟨fs, hp⟩ := hp
  exact grinOwn_core fs v x W hp (grinOwn_first W ht)
end Go.Proofs.YtoidogfnjpmceaaDoor
