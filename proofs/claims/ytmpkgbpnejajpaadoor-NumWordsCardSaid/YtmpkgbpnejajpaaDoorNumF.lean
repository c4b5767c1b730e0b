/- What the listed variables' condition gives: the table of powers of ten. Conditions: the listed variables read as start-up lays them. -/
import Derived.Test.YtmpkgbpnejajpaaDoorNum4
import Derived.Test.YtmpkgbpnejajpaaDoorTie
import Derived.Test.YtmpkgbpnejajpaaDoorCards
import Derived.ProofKit
import Derived.LaidMore
import Derived.OpenShut
import Derived.Stop.Joined
import Derived.Stop.LaidErr
import Derived.Lib.LaidTab
namespace Go.Proofs.YtmpkgbpnejajpaaDoor
open Go.ChangeShapes Go.WideShapes Go.ChangeAt Go.RowKit

theorem own : ownKnob Tryd.prog.godebug = none := by kernel_rfl

theorem tabs_of_laid {W : World} {rest : List (String × DataW Unit)} (h : laidMet Tryd.prog (("math/bits.deBruijn32tab", Rows.laid_math_bits_deBruijn32tab) :: ("math/bits.deBruijn64tab", Rows.laid_math_bits_deBruijn64tab) :: ("internal/strconv.uint64pow10", Rows.laid_internal_strconv_uint64pow10) :: rest) W) : Tabs W := by
  have h2 := h.tail.tail
  have e2 : (Rows.laid_internal_strconv_uint64pow10 : DataW Unit) = Lib.tabData .u64 Lib.pow10Tab := rfl
  rw [e2] at h2
  exact Lib.tabIs_of_head globPow (t := 94) (by kernel_rfl) Tryd.underlying94 Tryd.underlying48 (by kernel_rfl) (by kernel_rfl) h2
end Go.Proofs.YtmpkgbpnejajpaaDoor
