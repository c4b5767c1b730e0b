/- Package obs, of an observation that has no parts: isBare, isBounded, Same. No conditions. -/
import Derived.Test.YtdmgaaaomleojaaGreatDoorGrew
namespace Go.Proofs.YtdmgaaaomleojaaGreatDoor
open Go.RowKit

/-- an observation with no name and no parts -/
abbrev leafV (k n : Int) : Value := .agg #[.int .i64 k, .int .i64 n, .string ⟨#[]⟩, .slice none 0 0]

set_option maxRecDepth 100000 in
set_option maxHeartbeats 1000000 in
theorem isBare_leaf (k n : Int) (w : World) : Calls Tryz.prog 15 #[leafV k n] w (Grew (.bool true) w) := by
  unfold leafV
  go_enter Tryz.func15, Tryz.ntmps15
  go_wp2_with fail
  go_ret
  exact ⟨rfl, Below.alloc (Below.refl _ _) (Nat.le_refl _) _⟩

set_option maxRecDepth 100000 in
set_option maxHeartbeats 1000000 in
theorem isCut_leaf (k n d : Int) (hk : ¬ k = 3) (w : World) : Calls Tryz.prog 39 #[leafV k n, .int .i64 d] w (Grew (.bool false) w) := by
  have hk' : (k == 3) = false := by simpa using hk
  unfold leafV
  go_enter Tryz.func39, Tryz.ntmps39
  go_wp2_with fail
  go_ret
  exact ⟨rfl, Below.alloc (Below.refl _ _) (Nat.le_refl _) _⟩

set_option maxRecDepth 100000 in
set_option maxHeartbeats 2000000 in
theorem fits_leaf (k n d lv : Int) (L : Int) (b B : Nat) (hk : ¬ k = 3) (hl : 0 ≤ lv) (hl2 : lv ≤ 100000) (h0 : 100 ≤ L) (h1 : L ≤ 9223372036854775807) (w : World) (hB : B ≤ b) (hb : w.heap[b]? = some (.cells #[.int .i64 L] 3 (0, 0))) :
    Calls Tryz.prog 23 #[leafV k n, .int .i64 d, .int .i64 lv, .pointer (some ⟨b, 0, none⟩)] w fun e w' => e = .returned (.bool true) ∧ Below B w w' := by
  have H := fun w => Lib.hid (isCut_leaf k n d hk w)
  have hblt : b < w.heap.size := by
    rcases Nat.lt_or_ge b w.heap.size with h | h
    · exact h
    · rw [Array.getElem?_eq_none h] at hb; simp at hb
  have hlv : ¬ lv < 0 := by omega
  unfold leafV at *
  go_enter Tryz.func23, Tryz.ntmps23
  have hc : ∀ o, (w.alloc o).cell? ⟨b, 0, none⟩ = some (.int .i64 L) := fun o => by
    rw [World.cell?_of_block (w := w) (Below.heap_alloc w o b hblt)]; simp [World.cell?, hb]
  have hf : ∀ o, (w.alloc o).frozen? ⟨b, 0, none⟩ = false := fun o => by
    rw [World.frozen?_of_block (w := w) (Below.heap_alloc w o b hblt)]; simp [World.frozen?, hb]
  have hc2 : ∀ o, ((w.setCell ⟨b, 0, none⟩ (.int .i64 (L - 56))).alloc o).drew.cell? ⟨b, 0, none⟩ = some (.int .i64 (L - 56)) := fun o => by
    show ((w.setCell ⟨b, 0, none⟩ (.int .i64 (L - 56))).alloc o).cell? ⟨b, 0, none⟩ = _
    rw [World.cell?_of_block (w := w.setCell ⟨b, 0, none⟩ (.int .i64 (L - 56))) (Below.heap_alloc _ o b (by simpa [World.setCell] using hblt))]
    exact World.cell?_setCell_same' _ _ _ (by simp [World.cell?, hb])
  have hL : ¬ L - 56 < 0 := by omega
  go_wp2_with fail
  go_region
  all_goals
    go_wp2_with fail
    refine ((H _).out).mono ?_
    rintro e w2 ⟨rfl, hb2⟩
    have hS : w2.cell? ⟨w.heap.size, 3, none⟩ = some (.slice none 0 0) := by
      rw [hb2.cell (show w.heap.size < _ by simp [World.setCell])]
      exact (World.cell?_alloc_at _ _ _ _ (by simp [World.setCell])).trans rfl
    have hBB : Below B w w2 := ((((Below.refl B w).setCell hB _).alloc (by simp [World.setCell]; omega) _).drew).trans (hb2.mono (by simp [World.setCell]; omega))
    clear hb2
    have HB := Lib.hid hBB
    clear hBB
    go_wp2_with fail
    go_loopw [34] (fun vi wr => vi = .int .i64 0 ∧ wr = w2) (fun vi _ => 1 - (intOf vi).toNat)
    case atStart => exact ⟨rfl, rfl⟩
    case round =>
      obtain ⟨rfl, rfl⟩ := hrel
      go_wp2_with fail
      go_ret
      exact ⟨rfl, HB.out⟩

set_option maxRecDepth 100000 in
set_option maxHeartbeats 1000000 in
theorem eqf_nil (f : Value) (w : World) : Calls Tryz.prog 24 #[.slice none 0 0, .slice none 0 0, f] w fun e w' => e = .returned (.bool true) ∧ w = w' := by
  go_enter Tryz.func24, Tryz.ntmps24
  go_wp2_with fail
  go_loopw [17] (fun vi wr => vi = .int .i64 0 ∧ wr = w) (fun vi _ => 1 - (intOf vi).toNat)
  case atStart => exact ⟨rfl, rfl⟩
  case round =>
    obtain ⟨rfl, rfl⟩ := hrel
    go_wp2_with fail
    go_ret
    exact ⟨rfl, rfl⟩

set_option maxRecDepth 100000 in
set_option maxHeartbeats 1000000 in
/-- same: two observations of no parts differ in their kind or their number -/
theorem same_leaf (k n k' n' : Int) (w : World) : Calls Tryz.prog 14 #[leafV k n, leafV k' n'] w (Grew (.bool (k == k' && n == n')) w) := by
  have H := fun f w => Lib.hid (eqf_nil f w)
  unfold leafV at *
  by_cases hk : k = k'
  · have hk2 : (k == k') = true := by simpa using hk
    by_cases hn : n = n'
    · have hn2 : (n == n') = true := by simpa using hn
      go_enter Tryz.func14, Tryz.ntmps14
      go_wp2_with fail
      refine ((H _ _).out).mono ?_
      rintro e w2 ⟨rfl, rfl⟩
      go_wp2_with fail
      go_ret
      rw [hk2, hn2]
      exact ⟨rfl, ((Below.refl _ _).alloc (Nat.le_refl _) _).alloc (by simp) _⟩
    · have hn2 : (n == n') = false := by simpa using hn
      go_enter Tryz.func14, Tryz.ntmps14
      go_wp2_with fail
      go_ret
      rw [hk2, hn2]
      exact ⟨rfl, ((Below.refl _ _).alloc (Nat.le_refl _) _).alloc (by simp) _⟩
  · have hk2 : (k == k') = false := by simpa using hk
    go_enter Tryz.func14, Tryz.ntmps14
    go_wp2_with fail
    go_ret
    rw [hk2]
    exact ⟨rfl, ((Below.refl _ _).alloc (Nat.le_refl _) _).alloc (by simp) _⟩

end Go.Proofs.YtdmgaaaomleojaaGreatDoor
