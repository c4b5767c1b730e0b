/- Package obs, what reads a text of one word: read, Parse. Conditions: as each says. -/
import Derived.Test.YtdmgaaaomleojaaGreatDoorO10
namespace Go.Proofs.YtdmgaaaomleojaaGreatDoor
open Go.RowKit

theorem make_one (w : World) : (Instr.makeSlice 25 (.int .i64 1) (.int .i64 1)).run Tryz.prog w = .ok (.slice (some ⟨w.heap.size, 0, none⟩) 1 1) (w.alloc (.cells #[.int .i64 0, .int .i64 0, .string ⟨#[]⟩, .slice none 0 0] 27)) := by kernel_rfl
set_option maxRecDepth 100000 in
set_option maxHeartbeats 4000000 in
theorem read_one (s : ByteArray) (hs : Okt s) (k n : Int) (w : World) (hof : ∀ w1, Below w.heap.size w w1 → Calls Tryz.prog 31 #[.string s] w1 (Grew (leafV k n) w1)) :
    Calls Tryz.prog 10 #[.string s] w (Grew (leafV k n) w) := by
  have H1 := fun w => Lib.hid (cut_sp s hs w)
  have HF := Lib.hid hof
  have HS := Lib.hid hs
  clear hof hs
  have hmk := make_one
  unfold leafV at *
  go_enter Tryz.func10, Tryz.ntmps10
  go_wp2_with fail
  clear hmk
  obtain ⟨W, hW⟩ : ∃ W, W = (((w.alloc (.cells #[.int .i64 0, .int .i64 0, .string ⟨#[]⟩, .slice none 0 0] 27)).alloc (.cells #[.int .i64 0, .int .i64 0, .string ⟨#[]⟩, .slice none 0 0] 27)).alloc (.cells #[.slice (some ⟨w.heap.size + 1, 0, none⟩) 1 1] 47)) := ⟨_, rfl⟩
  have r0 : W.heap[w.heap.size]? = some (.cells #[.int .i64 0, .int .i64 0, .string ⟨#[]⟩, .slice none 0 0] 27 (0, 0)) := by
    rw [hW, Below.heap_alloc _ _ _ (by simp; omega), Below.heap_alloc _ _ _ (by simp)]; exact heap_alloc_new w _
  have r1 : W.heap[w.heap.size + 1]? = some (.cells #[.int .i64 0, .int .i64 0, .string ⟨#[]⟩, .slice none 0 0] 27 (0, 0)) := by
    rw [hW, Below.heap_alloc _ _ _ (by simp)]
    have := heap_alloc_new (w.alloc (.cells #[.int .i64 0, .int .i64 0, .string ⟨#[]⟩, .slice none 0 0] 27)) (.cells #[.int .i64 0, .int .i64 0, .string ⟨#[]⟩, .slice none 0 0] 27)
    simpa using this
  have r2 : W.heap[w.heap.size + 1 + 1]? = some (.cells #[.slice (some ⟨w.heap.size + 1, 0, none⟩) 1 1] 47 (0, 0)) := by
    rw [hW]
    have := heap_alloc_new ((w.alloc (.cells #[.int .i64 0, .int .i64 0, .string ⟨#[]⟩, .slice none 0 0] 27)).alloc (.cells #[.int .i64 0, .int .i64 0, .string ⟨#[]⟩, .slice none 0 0] 27)) (.cells #[.slice (some ⟨w.heap.size + 1, 0, none⟩) 1 1] 47)
    simpa using this
  have hsz : W.heap.size = w.heap.size + 3 := by rw [hW]; simp
  have hbW : Below w.heap.size w W := by rw [hW]; exact (((Below.refl _ _).alloc (Nat.le_refl _) _).alloc (by simp) _).alloc (by simp; omega) _
  rw [← hW]
  clear hW
  have HBW := Lib.hid hbW
  have H4 := fun w1 (hb : Below W.heap.size W w1) => Lib.hid (take_one s HS.out k n (w.heap.size + 1 + 1) (w.heap.size + 1) 1 (w.heap.size + 1) w1 (by omega) (by omega) (by omega) ((hb.block _ (by omega)).trans r2) ((hb.block _ (by omega)).trans r1) fun w2 hb2 => HF.out w2 (hbW.trans ((hb.trans (hb2.mono hb.size)).mono (by omega))))
  have HR0 := Lib.hid r0
  have HR2 := Lib.hid r2
  clear r0 r1 r2 hbW
  go_loopw [0, 9] (fun vs vi wr => vs = .string s ∧ vi = .int .i64 0 ∧ wr = W) (fun _ vi _ => 1 - (intOf vi).toNat)
  case atStart => exact ⟨rfl, rfl, rfl⟩
  case round =>
    obtain ⟨rfl, rfl, rfl⟩ := hrel
    go_wp2_with fail
    refine ((H1 _).out).mono ?_
    rintro e w1 ⟨rfl, hb1⟩
    have H5 := H4 w1 hb1
    have HB1 := Lib.hid hb1
    clear hb1 H4
    go_wp2_with fail
    refine (H5.out).mono ?_
    rintro e w2 ⟨rfl, hA⟩
    have HB2 := Lib.hid ((HB1.out.mono (show w.heap.size + 1 ≤ wr.heap.size by omega)).trans hA.below)
    have hrd := hA.reader.trans ((HB1.out.block (w.heap.size + 1 + 1) (by omega)).trans HR2.out)
    obtain ⟨g, c, p0, p1, p2, p3, p4⟩ := hA.part
    have H6 := Lib.hid (whole_one k n _ _ g 1 c w2 hrd p0 p1 p2 p3 p4)
    clear hA hrd p0 p1 p2 p3 p4
    go_wp2_with fail
    refine (H6.out).mono ?_
    rintro e w3 ⟨rfl, hb3⟩
    have HB3 := Lib.hid (HB2.out.trans (hb3.mono (by have := HB2.out.size; omega)))
    clear hb3
    have hrow := (HB3.out.block w.heap.size (by omega)).trans HR0.out
    have z0 := cell_of_row w3 w.heap.size 0 _ _ _ hrow
    have z1 := cell_of_row w3 w.heap.size 1 _ _ _ hrow
    have z2 := cell_of_row w3 w.heap.size 2 _ _ _ hrow
    have z3 := cell_of_row w3 w.heap.size 3 _ _ _ hrow
    simp only [List.getElem?_toArray, List.getElem?_cons_zero, List.getElem?_cons_succ] at z0 z1 z2 z3
    have zf : ∀ i, w3.frozen? ⟨w.heap.size, i, none⟩ = false := fun i => by simp [World.frozen?, hrow]
    have HROW := Lib.hid hrow
    clear hrow
    go_wp2_with fail
    refine bodyPost_ret (results_cell_row rfl _ _ w.heap.size 27 _ (0, 0) _ rfl (obs_row HROW.out rfl _ _ _ _) Tryz.underlying27 rfl (infoO _ _ _ _)) rfl ?_
    have hfin : Below w.heap.size w w3 := HBW.out.trans (HB3.out.mono (by omega))
    exact ⟨rfl, (((hfin.setCell (Nat.le_refl _) _).setCell (Nat.le_refl _) _).setCell (Nat.le_refl _) _).setCell (Nat.le_refl _) _⟩
end Go.Proofs.YtdmgaaaomleojaaGreatDoor
