/- Package obs, what reads a text of one word: whole, take, read, Parse. Conditions: as each says. -/
import Derived.Test.YtdmgaaaomleojaaGreatDoorO9
namespace Go.Proofs.YtdmgaaaomleojaaGreatDoor
open Go.RowKit

set_option maxRecDepth 100000 in
set_option maxHeartbeats 2000000 in
theorem whole_one (k n : Int) (rb ob g c1 c : Nat) (w : World) (hr : w.heap[rb]? = some (.cells #[.slice (some ⟨ob, 0, none⟩) 1 c1] 47 (0, 0)))
    (h3 : w.cell? ⟨ob, 3, none⟩ = some (.slice (some ⟨g, 0, none⟩) 1 c)) (g0 : w.cell? ⟨g, 0, none⟩ = some (.int .i64 k)) (g1 : w.cell? ⟨g, 1, none⟩ = some (.int .i64 n)) (g2 : w.cell? ⟨g, 2, none⟩ = some (.string ⟨#[]⟩)) (g3 : w.cell? ⟨g, 3, none⟩ = some (.slice none 0 0)) :
    Calls Tryz.prog 19 #[.pointer (some ⟨rb, 0, none⟩)] w (Grew (leafV k n) w) := by
  have hrlt : rb < w.heap.size := by
    rcases Nat.lt_or_ge rb w.heap.size with h | h
    · exact h
    · rw [Array.getElem?_eq_none h] at hr; simp at hr
  have lt : ∀ {b o : Nat} {v : Value}, w.cell? ⟨b, o, none⟩ = some v → b < w.heap.size := fun {b o v} h => by
    rcases Nat.lt_or_ge b w.heap.size with h' | h'
    · exact h'
    · simp [World.cell?, Array.getElem?_eq_none h'] at h
  have holt := lt h3
  have hglt := lt g0
  have cr : ∀ o, (w.alloc o).cell? ⟨rb, 0, none⟩ = some (.slice (some ⟨ob, 0, none⟩) 1 c1) := fun o => by
    rw [World.cell?_alloc_past _ _ _ hrlt]; simp [World.cell?, hr]
  have co : ∀ o, (w.alloc o).cell? ⟨ob, 3, none⟩ = some (.slice (some ⟨g, 0, none⟩) 1 c) := fun o => by
    rw [World.cell?_alloc_past _ _ _ holt]; exact h3
  have c0 : ∀ o, (w.alloc o).cell? ⟨g, 0, none⟩ = some (.int .i64 k) := fun o => by rw [World.cell?_alloc_past _ _ _ hglt]; exact g0
  have c1' : ∀ o, (w.alloc o).cell? ⟨g, 1, none⟩ = some (.int .i64 n) := fun o => by rw [World.cell?_alloc_past _ _ _ hglt]; exact g1
  have c2 : ∀ o, (w.alloc o).cell? ⟨g, 2, none⟩ = some (.string ⟨#[]⟩) := fun o => by rw [World.cell?_alloc_past _ _ _ hglt]; exact g2
  have c3 : ∀ o, (w.alloc o).cell? ⟨g, 3, none⟩ = some (.slice none 0 0) := fun o => by rw [World.cell?_alloc_past _ _ _ hglt]; exact g3
  clear hr h3 g0 g1 g2 g3 lt
  unfold leafV
  go_enter Tryz.func19, Tryz.ntmps19
  go_wp2_with fail
  refine bodyPost_ret (results_cell_row rfl _ _ w.heap.size 27 _ (0, 0) _ rfl (heap_alloc_new w _) Tryz.underlying27 rfl (infoO _ _ _ _)) rfl ?_
  exact ⟨rfl, Below.alloc (Below.refl _ _) (Nat.le_refl _) _⟩

theorem Added.trans {k n : Int} {rb ob B : Nat} {w w1 w' : World} (hb : Below w.heap.size w w1) (hrlt : rb < w.heap.size) (hB : B ≤ w.heap.size) (h : Added k n rb ob B w1 w') : Added k n rb ob B w w' :=
  ⟨(hb.mono hB).trans h.below, h.reader.trans (hb.block rb hrlt), h.part⟩

set_option maxRecDepth 100000 in
set_option maxHeartbeats 4000000 in
theorem take_one (s : ByteArray) (hs : Okt s) (k n : Int) (rb ob c1 B : Nat) (w : World) (hB1 : B ≤ rb) (hB2 : B ≤ ob) (hne : rb ≠ ob) (hr : w.heap[rb]? = some (.cells #[.slice (some ⟨ob, 0, none⟩) 1 c1] 47 (0, 0)))
    (ho : w.heap[ob]? = some (.cells #[.int .i64 0, .int .i64 0, .string ⟨#[]⟩, .slice none 0 0] 27 (0, 0)))
    (hof : ∀ w1, Below w.heap.size w w1 → Calls Tryz.prog 31 #[.string s] w1 (Grew (leafV k n) w1)) :
    Calls Tryz.prog 18 #[.pointer (some ⟨rb, 0, none⟩), .string s] w fun e w' => e = .returned (.bool true) ∧ Added k n rb ob B w w' := by
  have hrlt : rb < w.heap.size := by
    rcases Nat.lt_or_ge rb w.heap.size with h | h
    · exact h
    · rw [Array.getElem?_eq_none h] at hr; simp at hr
  have holt : ob < w.heap.size := by
    rcases Nat.lt_or_ge ob w.heap.size with h | h
    · exact h
    · rw [Array.getElem?_eq_none h] at ho; simp at ho
  have H1 := fun w => Lib.hid (prefix_br s hs w)
  have H2 := fun w => Lib.hid (trim_br s hs w)
  have H3 := Lib.hid hof
  have H4 := fun w1 (hb : Below w.heap.size w w1) => Lib.hid (add_first k n rb ob c1 B w1 hB1 hB2 hne ((hb.block rb hrlt).trans hr) ((hb.block ob holt).trans ho))
  clear hof hr ho hs
  unfold leafV at *
  go_enter Tryz.func18, Tryz.ntmps18
  go_wp2_with fail
  refine ((H1 _).out).mono ?_
  rintro e w1 ⟨rfl, hb1⟩
  have HB1 := Lib.hid hb1
  clear hb1
  go_wp2_with fail
  refine ((H2 _).out).mono ?_
  rintro e w2 ⟨rfl, hb2⟩
  have HB2 := Lib.hid (HB1.out.trans (hb2.mono HB1.out.size))
  clear hb2
  go_wp2_with fail
  refine (H3.out _ HB2.out).mono ?_
  rintro e w3 ⟨rfl, hb3⟩
  have HB3 := Lib.hid (HB2.out.trans (hb3.mono HB2.out.size))
  clear hb3
  go_wp2_with fail
  refine ((H4 _ HB3.out).out).mono ?_
  rintro e w4 ⟨rfl, ha⟩
  have HA := Lib.hid (Added.trans HB3.out hrlt (by omega) ha)
  clear ha
  go_wp2_with fail
  go_loopw [39] (fun vi wr => vi = .int .i64 0 ∧ wr = w4) (fun vi _ => 1 - (intOf vi).toNat)
  case atStart => exact ⟨rfl, rfl⟩
  case round =>
    obtain ⟨rfl, rfl⟩ := hrel
    go_wp2_with fail
    go_ret
    exact ⟨rfl, HA.out⟩
end Go.Proofs.YtdmgaaaomleojaaGreatDoor
