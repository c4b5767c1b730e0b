/- Tags: the table that the laws' rows list, as the walks want it. No conditions of its own. -/
import Derived.Test.YtcplajplbocieaaDoorTg6
import Derived.Test.YtcplajplbocieaaDoorTie
import Derived.Test.YtcplajplbocieaaDoorCards
import Derived.ProofKit
import Derived.LaidMore
import Derived.OpenShut
import Derived.Stop.Joined
import Derived.Stop.LaidErr
import Derived.Lib.LaidTab
namespace Go.Proofs.YtcplajplbocieaaDoor
open Go.RowKit
theorem tabs_of {W : World} {a b : String × DataW Unit} (ht : laidMet Tryd.prog [a, b, ("internal/strconv.uint64pow10", Rows.laid_internal_strconv_uint64pow10)] W) : Tabs W := by
  have h2 := ht.tail.tail
  have e2 : (Rows.laid_internal_strconv_uint64pow10 : DataW Unit) = Lib.tabData .u64 Lib.pow10Tab := rfl
  rw [e2] at h2
  exact Lib.tabIs_of_head (g := 1) (t := 81) (by kernel_rfl) (by kernel_rfl) Tryd.underlying81 Tryd.underlying63 (by kernel_rfl) (by kernel_rfl) h2
end Go.Proofs.YtcplajplbocieaaDoor
