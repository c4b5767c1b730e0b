/- What the listed variables' condition gives NumWords: the table of powers of ten, num's table. Conditions: the listed variables read as start-up lays them. -/
import Derived.Test.YtmpkgbpnejajpaaDoorNumF
import Derived.Test.YtmpkgbpnejajpaaDoorSent
import Derived.Test.YtmpkgbpnejajpaaDoorNum8
namespace Go.Proofs.YtmpkgbpnejajpaaDoor
open Go.RowKit
theorem words_of_laid {W : World} (h : laidMet Tryd.prog Rows.numWordsRow.laid W) : Tabs W ∧ PrimsIs W :=
  ⟨tabs_of_laid h, cells_of_head (n := 3) (t := 58) globPrims (by kernel_rfl) (by kernel_rfl) primVs_eq (laid_drop 3 h)⟩
end Go.Proofs.YtmpkgbpnejajpaaDoor
