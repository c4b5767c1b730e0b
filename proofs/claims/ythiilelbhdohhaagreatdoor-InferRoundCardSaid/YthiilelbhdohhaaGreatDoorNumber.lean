/- gristmillworld.Number: what is left of any number, from 0 on. No conditions. -/
import Derived.Test.YthiilelbhdohhaaGreatDoorRows
import Derived.WalkKit
import Derived.WalkSpells
import Derived.Lib.Hide
import Derived.WalkLawsBesides
namespace Go.Proofs.YthiilelbhdohhaaGreatDoor
open Go.RowKit
theorem tmod_small (x m : Int) (hm : 0 < m) (hm2 : m ≤ 1000000) : -1000000 ≤ x.tmod m ∧ x.tmod m ≤ 1000000 := by
  have h1 := Int.tmod_lt_of_pos x hm
  have h2 : -m < x.tmod m := by
    have := Int.lt_tmod_of_pos x hm
    omega
  omega
end Go.Proofs.YthiilelbhdohhaaGreatDoor
