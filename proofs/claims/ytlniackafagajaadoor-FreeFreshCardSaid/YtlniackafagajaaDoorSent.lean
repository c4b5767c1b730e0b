/- Errors' variables: what the listed variables' condition says of them; api's eighteen errors. Conditions: the listed variables read as start-up lays them. -/
import Derived.Test.YtlniackafagajaaDoorRows
import Derived.WalkKit
import Derived.Lib.Hide
import Derived.LaidLaws
import Derived.LaidMore
import Derived.ProofKit
import Derived.OpenShut
import Derived.Stop.Joined
import Derived.Stop.LaidErr
namespace Go.Proofs.YtlniackafagajaaDoor
open Go.ChangeShapes Go.WideShapes Go.ChangeAt Go.RowKit

theorem laid_drop {P : Program} {W : World} : ∀ (k : Nat) {l : List (String × DataW Unit)}, laidMet P l W → laidMet P (l.drop k) W
  | 0, _, h => h
  | k + 1, [], h => by simpa using h
  | k + 1, _ :: l, h => by simpa using laid_drop k (l := l) h.tail

theorem starE : ("*" ++ "errors.errorString") = "*errors.errorString" := by decide +kernel
end Go.Proofs.YtlniackafagajaaDoor
