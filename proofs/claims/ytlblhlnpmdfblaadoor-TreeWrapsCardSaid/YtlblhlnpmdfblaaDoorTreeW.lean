/- TreeWraps: called with any texts and number, in whatever memory. Conditions: the listed variables read as start-up lays them. -/
import Derived.Test.YtlblhlnpmdfblaaDoorTreeWrapsA
import Derived.Test.YtlblhlnpmdfblaaDoorTreeWrapsS
import Derived.Test.YtlblhlnpmdfblaaDoorRd8
import Derived.Test.YtlblhlnpmdfblaaDoorSame
import Derived.Test.YtlblhlnpmdfblaaDoorTree4
namespace Go.Proofs.YtlblhlnpmdfblaaDoor
open Go.RowKit
theorem treeWraps_any (s t : ByteArray) (k : Int) {p q r : Prop} (_p : p) (_q : q) (_r : r) (W : World) (ht : laidMet Tryd.prog Rows.treeWrapsRow.laid W) : Calls Tryd.prog 5 #[.string s, .string t, .int .i64 k] W (Grew (.bool true) W) := by
  obtain ⟨a1, e1⟩ := treeWraps_c_ErrDeep ht
  obtain ⟨a2, e2⟩ := treeWraps_c_ErrClose ht
  obtain ⟨a3, e3⟩ := treeWraps_c_ErrOpen ht
  have cb : ∀ {g : Nat} {x : Value} {w1 : World}, Below W.heap.size W w1 → W.cell? ⟨g, 0, none⟩ = some x → w1.cell? ⟨g, 0, none⟩ = some x := fun hb hx => (hb.cell (p := ⟨_, 0, none⟩) (World.block_lt_of_cell? W _ hx)).trans hx
  refine wraps_core s t k W (Lib.hid (treeWraps_first W (fun sy => treeWraps_starts ht sy))) (Lib.hid fun s w1 hs hb => ?_) (Lib.hid fun f ao cap w1 hw hf hb ha => ?_) (Lib.hid fun f g ao ao' cap cap' w1 hs hg hb ha hc => ?_)
  · exact parse_any s hs _ _ _ _ _ _ w1 (cb hb e1) (cb hb e2) (cb hb e3)
  · exact deep_any 1000 (by decide) f hf hw ao cap f.len w1 rfl ha
  · exact same_any 1000 (by decide) f g hs hg ao ao' cap cap' f.len g.len w1 rfl rfl ha hc
end Go.Proofs.YtlblhlnpmdfblaaDoor
