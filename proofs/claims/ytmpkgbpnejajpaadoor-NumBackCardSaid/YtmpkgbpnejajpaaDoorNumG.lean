/- What the listed variables' condition gives NumBack: the table of powers of ten, the errors of strconv, api's ErrNumber. Conditions: the listed variables read as start-up lays them. -/
import Derived.Test.YtmpkgbpnejajpaaDoorNumF
import Derived.Test.YtmpkgbpnejajpaaDoorSent
import Derived.Test.YtmpkgbpnejajpaaDoorNum7
namespace Go.Proofs.YtmpkgbpnejajpaaDoor
open Go.RowKit
theorem back_of_laid {W : World} (h : laidMet Tryd.prog Rows.numBackRow.laid W) : Tabs W ∧ Errs W ∧ ∃ tp p, W.var? Tryd.prog "gristmill/api.ErrNumber" = some #[.iface tp p] := by
  have ht := tabs_of_laid h
  obtain ⟨a, e1⟩ := sent1 (laid_drop 3 h) globRng (by kernel_rfl)
  obtain ⟨b, e2⟩ := sent1 (laid_drop 4 h) globSyn (by kernel_rfl)
  obtain ⟨c, e3⟩ := sent1 (laid_drop 5 h) globNum (by kernel_rfl)
  exact ⟨ht, ⟨⟨_, _, e2.1⟩, ⟨_, _, e1.1⟩⟩, _, _, e3.1⟩
end Go.Proofs.YtmpkgbpnejajpaaDoor
