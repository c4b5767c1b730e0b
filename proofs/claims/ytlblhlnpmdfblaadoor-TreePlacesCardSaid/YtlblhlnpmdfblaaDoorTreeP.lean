/- TreePlaces: called with any text, in whatever memory. Conditions: the listed variables read as start-up lays them. -/
import Derived.Test.YtlblhlnpmdfblaaDoorTreePlacesA
import Derived.Test.YtlblhlnpmdfblaaDoorTreePlacesS
import Derived.Test.YtlblhlnpmdfblaaDoorRd8
namespace Go.Proofs.YtlblhlnpmdfblaaDoor
open Go.RowKit
theorem treePlaces_any (s : ByteArray) {p : Prop} (_q : p) (W : World) (ht : laidMet Tryd.prog Rows.treePlacesRow.laid W) : Calls Tryd.prog 4 #[.string s] W (Grew (.bool true) W) := by
  obtain ⟨a1, e1⟩ := treePlaces_c_ErrDeep ht
  obtain ⟨a2, e2⟩ := treePlaces_c_ErrClose ht
  obtain ⟨a3, e3⟩ := treePlaces_c_ErrOpen ht
  have cb : ∀ {g : Nat} {x : Value} {w1 : World}, Below W.heap.size W w1 → W.cell? ⟨g, 0, none⟩ = some x → w1.cell? ⟨g, 0, none⟩ = some x := fun hb hx => (hb.cell (p := ⟨_, 0, none⟩) (World.block_lt_of_cell? W _ hx)).trans hx
  refine places_core s W (Lib.hid (treePlaces_first W (fun sy => treePlaces_starts ht sy))) (Lib.hid fun s w1 hs hb => ?_)
  exact parse_any s hs _ _ _ _ _ _ w1 (cb hb e1) (cb hb e2) (cb hb e3)
end Go.Proofs.YtlblhlnpmdfblaaDoor
