/- LiftFlat: where start-up lays the listed variables. Conditions: none of its own. -/
import Derived.Test.YtkfoohhnfaohfaaGreatDoorTie
import Derived.Test.YtkfoohhnfaohfaaGreatDoorCards
import Derived.SevenTiedAt
import Derived.JoinedOf
import Derived.LaidLaws
import Derived.LaidMore
import Derived.LaidHandle
import Derived.LaidSub
import Derived.RowKit
import Derived.ProofKit
import Derived.Stop.Joined
namespace Go.Proofs.YtkfoohhnfaohfaaGreatDoor
open Go Go.ChangeShapes Go.WideShapes Go.ChangeAt Go.WideMaps Go.WideElems Go.RowKit
theorem liftFlat_door (os : Go.Os) (args : Array Value) : laidMetH Tryz.prog Rows.liftFlatRow.laid ((World.doorLaid Tryz.prog 197 os).forCall (fun _ _ => 0) ⟨#[], args, []⟩).memory :=
  laidMetH_of_parts3 (fuel := 8) (laidMet_of_run' 8 (by kernel_rfl) (by kernel_rfl)) (by kernel_rfl) (by kernel_rfl)

end Go.Proofs.YtkfoohhnfaohfaaGreatDoor
