/- W2 of stage 1: floats. -/
import Derived.Test.YtdmgaaaomleojaaGreatDoorFlW1
namespace Go.Proofs.YtdmgaaaomleojaaGreatDoor.Fl
open Go.RowKit Ieee
theorem floatBits_lt {op : BinOp} {x y r : Nat} (h : floatBits op .f64 x y = some r) : r < 18446744073709551616 := by
  have := floatBits_wf h
  simpa [Lit.wf] using this
end Go.Proofs.YtdmgaaaomleojaaGreatDoor.Fl
