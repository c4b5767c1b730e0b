/- Package obs, of an observation that has no parts: mayBe, Valid. No conditions. -/
import Derived.Test.YtdmgaaaomleojaaGreatDoorO2
import Derived.Test.YtdmgaaaomleojaaGreatDoorFlW1
namespace Go.Proofs.YtdmgaaaomleojaaGreatDoor
open Go.RowKit

/-- what a call finds in the first of three rows that were made ahead of it, behind a store into an elder one, stands behind it -/
theorem keptS {w w2 : World} {cs : Array Value} {t : TypeId} {o p : Obj} {b : Nat} {v : Value} (hb : Below ((((w.alloc (.cells cs t)).alloc o).alloc p).setCell ⟨b, 0, none⟩ v).heap.size ((((w.alloc (.cells cs t)).alloc o).alloc p).setCell ⟨b, 0, none⟩ v) w2)
    (hlt : b < w.heap.size) : (∀ i, w2.cell? ⟨w.heap.size, i, none⟩ = cs[i]?) ∧ ∀ B, B ≤ b → Below B w w2 := by
  refine ⟨fun i => ?_, fun B hB => ?_⟩
  · rw [hb.cell (show w.heap.size < _ by simp [World.setCell]; omega), World.cell?_setCell_other _ ⟨b, 0, none⟩ ⟨w.heap.size, i, none⟩ _ (fun e => by have := congrArg Addr.block e; simp at this; omega)]
    exact ((World.cell?_alloc_past (w := (w.alloc _).alloc _) _ _ _ (by simp; omega)).trans (World.cell?_alloc_past (w := w.alloc _) _ _ _ (by simp))).trans (World.cell?_alloc_at _ _ _ _ rfl)
  · have h1 : Below B w ((((w.alloc (.cells cs t)).alloc o).alloc p).setCell ⟨b, 0, none⟩ v) := ((((Below.refl B w).alloc (by omega) _).alloc (by simp; omega) _).alloc (by simp; omega) _).setCell (p := ⟨b, 0, none⟩) hB v
    exact h1.trans (hb.mono (by simp [World.setCell]; omega))
theorem Below.undrew {X w2 : World} (h : Below X.drew.heap.size X.drew w2) : Below X.heap.size X w2 := ⟨h.os, h.tape, h.output, h.size, h.block⟩

set_option maxRecDepth 100000 in
set_option maxHeartbeats 2000000 in
theorem mayBe_int (n tr L : Int) (b B : Nat) (h0 : 100 ≤ L) (h1 : L ≤ 9223372036854775807) (w : World) (hB : B ≤ b) (hb : w.heap[b]? = some (.cells #[.int .i64 L] 3 (0, 0))) :
    Calls Tryz.prog 16 #[leafV 1 n, .int .i64 tr, .pointer (some ⟨b, 0, none⟩)] w fun e w' => e = .returned (.bool true) ∧ Below B w w' := by
  have H := fun w => Lib.hid (isBare_leaf 1 n w)
  have hblt : b < w.heap.size := by
    rcases Nat.lt_or_ge b w.heap.size with h | h
    · exact h
    · rw [Array.getElem?_eq_none h] at hb; simp at hb
  have hbelow : ∀ (w : World) o p q, Below w.heap.size w (((w.alloc o).alloc p).alloc q) := fun w o p q => (((Below.refl _ _).alloc (Nat.le_refl _) o).alloc (by simp) p).alloc (by simp; omega) q
  have hc : ∀ o p q, (((w.alloc o).alloc p).alloc q).cell? ⟨b, 0, none⟩ = some (.int .i64 L) := fun o p q => by
    rw [(hbelow w o p q).cell (p := ⟨b, 0, none⟩) hblt]; simp [World.cell?, hb]
  have hf : ∀ o p q, (((w.alloc o).alloc p).alloc q).frozen? ⟨b, 0, none⟩ = false := fun o p q => by
    rw [(hbelow w o p q).frozen (p := ⟨b, 0, none⟩) hblt]; simp [World.frozen?, hb]
  have hc2 : ∀ o p q, ((((w.setCell ⟨b, 0, none⟩ (.int .i64 (L - 1))).alloc o).alloc p).alloc q).cell? ⟨b, 0, none⟩ = some (.int .i64 (L - 1)) := fun o p q => by
    rw [(hbelow (w.setCell ⟨b, 0, none⟩ (.int .i64 (L - 1))) o p q).cell (p := ⟨b, 0, none⟩) (by simpa [World.setCell] using hblt)]
    exact World.cell?_setCell_same' _ _ _ (by simp [World.cell?, hb])
  clear hbelow
  have hL : ¬ L - 1 < 0 := by omega
  unfold leafV at *
  go_enter Tryz.func16, Tryz.ntmps16
  go_wp2_with fail
  refine ((H _).out).mono ?_
  rintro e w2 ⟨rfl, hb2⟩
  have hbb := (keptS hb2 hblt).2 B hB
  go_wp2_with fail
  go_ret
  exact ⟨rfl, hbb⟩

set_option maxRecDepth 100000 in
set_option maxHeartbeats 2000000 in
theorem mayBe_flo (n tr L : Int) (a c : Nat) (r : Bool) (hn : IntKind.u64.wrap n = (a : Int)) (hcn : Fl.canonN a = c) (hr : ((c : Int) == (a : Int)) = r) (b B : Nat) (h0 : 100 ≤ L) (h1 : L ≤ 9223372036854775807) (w : World) (hB : B ≤ b) (hb : w.heap[b]? = some (.cells #[.int .i64 L] 3 (0, 0))) :
    Calls Tryz.prog 16 #[leafV 2 n, .int .i64 tr, .pointer (some ⟨b, 0, none⟩)] w fun e w' => e = .returned (.bool r) ∧ Below B w w' := by
  have H := fun w => Lib.hid (isBare_leaf 2 n w)
  have H2 : ∀ w, Hid (Calls Tryz.prog 25 #[.int .u64 a] w fun e w' => e = .returned (.int .u64 c) ∧ w = w') := fun w => Lib.hid (by have := Fl.canon_any a w; rw [hcn] at this; exact this)
  clear hcn
  have hblt : b < w.heap.size := by
    rcases Nat.lt_or_ge b w.heap.size with h | h
    · exact h
    · rw [Array.getElem?_eq_none h] at hb; simp at hb
  have hbelow : ∀ (w : World) o p q, Below w.heap.size w (((w.alloc o).alloc p).alloc q) := fun w o p q => (((Below.refl _ _).alloc (Nat.le_refl _) o).alloc (by simp) p).alloc (by simp; omega) q
  have hc : ∀ o p q, (((w.alloc o).alloc p).alloc q).cell? ⟨b, 0, none⟩ = some (.int .i64 L) := fun o p q => by
    rw [(hbelow w o p q).cell (p := ⟨b, 0, none⟩) hblt]; simp [World.cell?, hb]
  have hf : ∀ o p q, (((w.alloc o).alloc p).alloc q).frozen? ⟨b, 0, none⟩ = false := fun o p q => by
    rw [(hbelow w o p q).frozen (p := ⟨b, 0, none⟩) hblt]; simp [World.frozen?, hb]
  have hc2 : ∀ o p q, ((((w.setCell ⟨b, 0, none⟩ (.int .i64 (L - 1))).alloc o).alloc p).alloc q).cell? ⟨b, 0, none⟩ = some (.int .i64 (L - 1)) := fun o p q => by
    rw [(hbelow (w.setCell ⟨b, 0, none⟩ (.int .i64 (L - 1))) o p q).cell (p := ⟨b, 0, none⟩) (by simpa [World.setCell] using hblt)]
    exact World.cell?_setCell_same' _ _ _ (by simp [World.cell?, hb])
  clear hbelow
  have hL : ¬ L - 1 < 0 := by omega
  unfold leafV at *
  go_enter Tryz.func16, Tryz.ntmps16
  go_wp2_with fail
  go_region_with (first
    | (go_at_call 15
       refine ((H _).out).mono ?_
       rintro e w2 ⟨rfl, hb2⟩
       obtain ⟨hk, hbb⟩ := keptS (Below.undrew hb2) hblt
       have hbB := hbb B hB
       clear hbb hb2)
    | (go_at_call 25
       refine ((H2 _).out).mono ?_
       rintro e w3 ⟨rfl, rfl⟩))
  all_goals
    go_wp2_with fail
    go_ret

    exact ⟨rfl, hbB⟩

end Go.Proofs.YtdmgaaaomleojaaGreatDoor
