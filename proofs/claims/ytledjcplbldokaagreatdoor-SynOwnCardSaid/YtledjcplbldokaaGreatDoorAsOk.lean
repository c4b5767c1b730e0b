/- errors.As at a concrete target, as the runner is told of it. Conditions: the library's variable that holds the type 'error' is as start-up lays it. -/
import Derived.Test.YtledjcplbldokaaGreatDoorExD
import Derived.Test.YtledjcplbldokaaGreatDoorAs
import Derived.Below
namespace Go.Proofs.YtledjcplbldokaaGreatDoor
open Go.Ex Go.RowKit
theorem as_ok : AsOk Tryz.prog 53 4 108 113 (.iface 192 (.agg #[.pointer (some ⟨16, 39, none⟩)])) := by
  refine ⟨fun e t old w h1 h2 h3 => (as_hit e t old w h1 h2 h3).mono fun x w' ⟨g1, g2⟩ => ⟨g1, _, ?_, g2⟩, ⟨_, Tryz.func53, by kernel_rfl, by kernel_rfl⟩⟩
  exact ((((Below.refl _ _).alloc (by simp) _).alloc (by simp) _).alloc (by simp <;> omega) _).alloc (by simp <;> omega) _
end Go.Proofs.YtledjcplbldokaaGreatDoor
