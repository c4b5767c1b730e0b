/- W8 of stage 1: floats. -/
import Derived.Test.YtdmgaaaomleojaaGreatDoorFlOps
namespace Go.Proofs.YtdmgaaaomleojaaGreatDoor.Fl
open Go.RowKit Ieee
set_option maxRecDepth 100000 in
set_option maxHeartbeats 400000 in
theorem inf_pos (w : World) : Calls Tryz.prog 87 #[.int .i64 1] w fun e w' => e = .returned (.float .f64 9218868437227405312) ∧ w = w' := by
  have fb : ∀ w, (callFunc 42 #[.int .u64 9218868437227405312]).run Tryz.prog w = .ok (.value (.float .f64 9218868437227405312)) w := fun w => from_bits 9218868437227405312 w
  go_enter Tryz.func87, Tryz.ntmps87
  go_wp2
  go_ret
  exact ⟨rfl, rfl⟩
set_option maxRecDepth 100000 in
set_option maxHeartbeats 400000 in
theorem inf_neg (w : World) : Calls Tryz.prog 87 #[.int .i64 (-1)] w fun e w' => e = .returned (.float .f64 18442240474082181120) ∧ w = w' := by
  have fb : ∀ w, (callFunc 42 #[.int .u64 18442240474082181120]).run Tryz.prog w = .ok (.value (.float .f64 18442240474082181120)) w := fun w => from_bits 18442240474082181120 w
  go_enter Tryz.func87, Tryz.ntmps87
  go_wp2
  go_ret
  exact ⟨rfl, rfl⟩
end Go.Proofs.YtdmgaaaomleojaaGreatDoor.Fl
