/- ObsDeep: where start-up lays the listed variables. Conditions: none of its own. -/
import Derived.Test.YtibofjdnkldddaaGreatDoorTie
import Derived.Test.YtibofjdnkldddaaGreatDoorCards
import Derived.SevenTiedAt
import Derived.JoinedOf
import Derived.LaidLaws
import Derived.LaidMore
import Derived.LaidHandle
import Derived.LaidSub
import Derived.RowKit
import Derived.ProofKit
import Derived.Stop.Joined
import Derived.Lay
import Derived.LaidOnce
namespace Go.Proofs.YtibofjdnkldddaaGreatDoor
open Go Go.ChangeShapes Go.WideShapes Go.ChangeAt Go.WideMaps Go.WideElems Go.RowKit
theorem obsDeep_door (os : Go.Os) (args : Array Value) : laidMetH Tryz.prog Rows.obsDeepRow.laid ((World.laidAll Tryz.prog os Rows.obsDeepRow.laid).forCall (fun _ _ => 0) ⟨#[], args, []⟩).memory := by
  rw [MakeChecks.laidMetH_plain _ _ _ (by kernel_rfl)]
  exact laidMet_laidAll _ (by kernel_rfl) (by kernel_rfl)
theorem obsDeep_shaped (os : Go.Os) : World.Shaped Tryz.prog (World.laidAll Tryz.prog os Rows.obsDeepRow.laid) :=
  World.shaped_of_ZipB (by kernel_rfl) (by kernel_rfl)

end Go.Proofs.YtibofjdnkldddaaGreatDoor
