/- Package obs, of an observation that has no parts: isBounded, Same. No conditions. -/
import Derived.Test.YtdmgaaaomleojaaGreatDoorO1
namespace Go.Proofs.YtdmgaaaomleojaaGreatDoor
open Go.RowKit

theorem World.alloc_heap_new (w : World) (o : Obj) : (w.alloc o).heap[w.heap.size]? = some o := by
  show (w.heap.push o)[w.heap.size]? = _
  simp
/-- what a call finds in two rows that were made ahead of it stands behind it -/
theorem kept2 {w w1 : World} {cs ds : Array Value} {t u : TypeId} (hb : Below ((w.alloc (.cells cs t)).alloc (.cells ds u)).heap.size ((w.alloc (.cells cs t)).alloc (.cells ds u)) w1) :
    (∀ i, w1.cell? ⟨w.heap.size, i, none⟩ = cs[i]?) ∧ ∀ i, w1.cell? ⟨w.heap.size + 1, i, none⟩ = ds[i]? := by
  refine ⟨fun i => ?_, fun i => ?_⟩
  · rw [hb.cell (show w.heap.size < _ by simp; omega)]
    exact (World.cell?_alloc_past (w := w.alloc _) _ _ _ (by simp)).trans (World.cell?_alloc_at _ _ _ _ rfl)
  · rw [hb.cell (show w.heap.size + 1 < _ by simp)]
    exact World.cell?_alloc_at _ _ _ _ (by simp)

set_option maxRecDepth 100000 in
set_option maxHeartbeats 1000000 in
theorem isBounded_leaf (k n d : Int) (hk : ¬ k = 3) (w : World) : Calls Tryz.prog 13 #[leafV k n, .int .i64 d] w (Grew (.bool true) w) := by
  have H := fun (b B : Nat) w hB hb => Lib.hid (fits_leaf k n d 65536 2147483647 b B hk (by omega) (by omega) (by omega) (by omega) w hB hb)
  unfold leafV at *
  go_enter Tryz.func13, Tryz.ntmps13
  go_wp2_with fail
  refine ((H (w.heap.size + 1) (w.heap.size + 1) _ (Nat.le_refl _) ?_).out).mono ?_
  · rw [show w.heap.size + 1 = (w.alloc (.cells #[.int .i64 k, .int .i64 n, .string ⟨#[]⟩, .slice none 0 0] 27)).heap.size by simp]
    exact World.alloc_heap_new _ _
  rintro e w2 ⟨rfl, hb2⟩
  go_wp2_with fail
  go_ret
  exact ⟨rfl, (((Below.refl _ _).alloc (Nat.le_refl _) _).alloc (by simp) _).trans (hb2.mono (Nat.le_succ _))⟩

set_option maxRecDepth 100000 in
set_option maxHeartbeats 1000000 in
theorem Same_leaf (k n k' n' : Int) (hk : ¬ k = 3) (w : World) : Calls Tryz.prog 8 #[leafV k n, leafV k' n'] w (Grew (.bool (k == k' && n == n')) w) := by
  have H := fun w => Lib.hid (isBounded_leaf k n 9223372036854775807 hk w)
  obtain ⟨b, hb⟩ : ∃ b, b = (k == k' && n == n') := ⟨_, rfl⟩
  have H2 : ∀ w, Hid (Calls Tryz.prog 14 #[leafV k n, leafV k' n'] w (Grew (.bool b) w)) := fun w => Lib.hid (by rw [hb]; exact same_leaf k n k' n' w)
  rw [← hb]
  clear hb
  unfold leafV at *
  go_enter Tryz.func8, Tryz.ntmps8
  go_wp2_with fail
  refine ((H _).out).mono ?_
  rintro e w1 ⟨rfl, hb1⟩
  obtain ⟨ka, kb⟩ := kept2 hb1
  have hb1' := (((Below.refl w.heap.size w).alloc (Nat.le_refl _) _).alloc (by simp) _).trans (hb1.mono (by simp; omega))
  go_wp2_with fail
  refine ((H2 _).out).mono ?_
  rintro e w2 ⟨rfl, hb2⟩
  go_wp2_with fail
  go_ret
  exact ⟨rfl, hb1'.trans (hb2.mono hb1'.size)⟩
end Go.Proofs.YtdmgaaaomleojaaGreatDoor
