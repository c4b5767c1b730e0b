/- Package obs, of an observation that has no parts: Valid, word, node. Conditions: the listed variables as start-up lays them; 64 bits. -/
import Derived.Test.YtdmgaaaomleojaaGreatDoorO5
namespace Go.Proofs.YtdmgaaaomleojaaGreatDoor
open Go.RowKit

set_option maxRecDepth 100000 in
set_option maxHeartbeats 1000000 in
theorem Valid_int (n : Int) (w : World) : Calls Tryz.prog 9 #[leafV 1 n] w (Grew (.bool true) w) := by
  have H := fun (b B : Nat) w hB hb => Lib.hid (mayBe_int n 40 20000 b B (by omega) (by omega) w hB hb)
  unfold leafV at *
  go_enter Tryz.func9, Tryz.ntmps9
  go_wp2_with fail
  refine ((H (w.heap.size + 1) (w.heap.size + 1) _ (Nat.le_refl _) ?_).out).mono ?_
  · rw [show w.heap.size + 1 = (w.alloc (.cells #[.int .i64 1, .int .i64 n, .string ⟨#[]⟩, .slice none 0 0] 27)).heap.size by simp]
    exact heap_alloc_new _ _
  rintro e w2 ⟨rfl, hb2⟩
  go_wp2_with fail
  go_ret
  exact ⟨rfl, (((Below.refl _ _).alloc (Nat.le_refl _) _).alloc (by simp) _).trans (hb2.mono (Nat.le_succ _))⟩

set_option maxRecDepth 100000 in
set_option maxHeartbeats 1000000 in
theorem Valid_flo (n : Int) (a c : Nat) (r : Bool) (hn : IntKind.u64.wrap n = (a : Int)) (hcn : Fl.canonN a = c) (hr : ((c : Int) == (a : Int)) = r) (w : World) : Calls Tryz.prog 9 #[leafV 2 n] w (Grew (.bool r) w) := by
  have H := fun (b B : Nat) w hB hb => Lib.hid (mayBe_flo n 40 20000 a c r hn hcn hr b B (by omega) (by omega) w hB hb)
  clear hn hcn hr
  unfold leafV at *
  go_enter Tryz.func9, Tryz.ntmps9
  go_wp2_with fail
  refine ((H (w.heap.size + 1) (w.heap.size + 1) _ (Nat.le_refl _) ?_).out).mono ?_
  · rw [show w.heap.size + 1 = (w.alloc (.cells #[.int .i64 2, .int .i64 n, .string ⟨#[]⟩, .slice none 0 0] 27)).heap.size by simp]
    exact heap_alloc_new _ _
  rintro e w2 ⟨rfl, hb2⟩
  go_wp2_with fail
  go_ret
  exact ⟨rfl, (((Below.refl _ _).alloc (Nat.le_refl _) _).alloc (by simp) _).trans (hb2.mono (Nat.le_succ _))⟩

set_option maxRecDepth 100000 in
set_option maxHeartbeats 1000000 in
theorem word_int (n : Int) (s : ByteArray) (w : World) (h : ∀ w1, Below w.heap.size w w1 → Calls Tryz.prog 37 #[.int .i64 n] w1 (Grew (.string s) w1)) :
    Calls Tryz.prog 22 #[leafV 1 n] w (Grew (.string s) w) := by
  have H := Lib.hid h
  clear h
  unfold leafV
  go_enter Tryz.func22, Tryz.ntmps22
  go_wp2_with fail
  have hb1 := Below.alloc (Below.refl w.heap.size w) (Nat.le_refl _) (.cells #[.int .i64 1, .int .i64 n, .string ⟨#[]⟩, .slice none 0 0] 27)
  refine (H.out _ hb1).mono ?_
  rintro e w2 ⟨rfl, hb2⟩
  go_wp2_with fail
  go_ret
  exact ⟨rfl, hb1.trans (hb2.mono hb1.size)⟩
set_option maxRecDepth 100000 in
set_option maxHeartbeats 1000000 in
theorem word_flo (n : Int) (a : Nat) (hn : IntKind.u64.wrap n = (a : Int)) (s : ByteArray) (w : World) (h : ∀ w1, Below w.heap.size w w1 → Calls Tryz.prog 38 #[.int .u64 a] w1 (Grew (.string s) w1)) :
    Calls Tryz.prog 22 #[leafV 2 n] w (Grew (.string s) w) := by
  have H := Lib.hid h
  clear h
  unfold leafV
  go_enter Tryz.func22, Tryz.ntmps22
  go_wp2_with fail
  have hb1 := Below.alloc (Below.refl w.heap.size w) (Nat.le_refl _) (.cells #[.int .i64 2, .int .i64 n, .string ⟨#[]⟩, .slice none 0 0] 27)
  refine (H.out _ hb1).mono ?_
  rintro e w2 ⟨rfl, hb2⟩
  go_wp2_with fail
  go_ret
  exact ⟨rfl, hb1.trans (hb2.mono hb1.size)⟩

/-- a node that is a word -/
abbrev nodeV (s : ByteArray) : Value := .agg #[.string s, .slice none 0 0, .int .i64 0]
theorem infoN (a b c : Value) : (Tryz.prog.info? 41).map (·.size) = some (#[a, b, c]).size := by
  show _ = some 3
  kernel_rfl
theorem node_row {w : World} {g : Nat} {cs : Array Value} {t : TypeId} (h : w.heap[g]? = some (.cells cs t (0, 0))) (hs : cs.size = 3) (a b c : Value) :
    (((w.setCell ⟨g, 0, none⟩ a).setCell ⟨g, 1, none⟩ b).setCell ⟨g, 2, none⟩ c).heap[g]? = some (.cells #[a, b, c] t (0, 0)) := by
  have := row_set c (row_set b (row_set a h (i := 0)) (i := 1)) (i := 2)
  rw [this]
  obtain ⟨l⟩ := cs
  match l, hs with
  | [x, y, z], _ => rfl
/-- two rows that were made ahead of a call stand behind it -/
theorem kept12 {w w1 : World} {cs ds : Array Value} {t u : TypeId} (hb : Below ((w.alloc (.cells cs t)).alloc (.cells ds u)).heap.size ((w.alloc (.cells cs t)).alloc (.cells ds u)) w1) :
    (∀ i, w1.cell? ⟨w.heap.size + 1, i, none⟩ = ds[i]?) ∧ (∀ i, w1.frozen? ⟨w.heap.size + 1, i, none⟩ = false) ∧ w1.heap[w.heap.size + 1]? = some (.cells ds u (0, 0)) ∧ Below w.heap.size w w1 := by
  obtain ⟨h1, h2, h3, h4⟩ := kept1 hb
  rw [show (w.alloc (.cells cs t)).heap.size = w.heap.size + 1 by simp] at h1 h2 h3
  exact ⟨h1, h2, h3, (Below.alloc (Below.refl _ _) (Nat.le_refl _) _).trans (h4.mono (by simp))⟩

set_option maxRecDepth 100000 in
set_option maxHeartbeats 1000000 in
theorem node_leaf (k n : Int) (s : ByteArray) (w : World) (h : ∀ w1, Below w.heap.size w w1 → Calls Tryz.prog 22 #[leafV k n] w1 (Grew (.string s) w1)) :
    Calls Tryz.prog 12 #[leafV k n] w (Grew (nodeV s) w) := by
  have H := Lib.hid h
  clear h
  unfold leafV at *
  go_enter Tryz.func12, Tryz.ntmps12
  go_wp2_with fail
  have hb1 := ((Below.refl w.heap.size w).alloc (Nat.le_refl _) (.cells #[.int .i64 k, .int .i64 n, .string ⟨#[]⟩, .slice none 0 0] 27)).alloc (by simp) (.cells #[.string ⟨#[]⟩, .slice none 0 0, .int .i64 0] 41)
  refine (H.out _ hb1).mono ?_
  rintro e w2 ⟨rfl, hb2⟩
  obtain ⟨k1, k2, k3, k4⟩ := kept12 hb2
  clear hb1 hb2
  have c0 := k1 0
  have c1 := k1 1
  have c2 := k1 2
  simp only [List.getElem?_toArray, List.getElem?_cons_zero, List.getElem?_cons_succ] at c0 c1 c2
  clear k1
  have HB := Lib.hid k4
  clear k4
  go_wp2_with fail
  refine bodyPost_ret (results_cell_row rfl _ _ (w.heap.size + 1) 41 _ (0, 0) _ rfl (node_row k3 rfl _ _ _) Tryz.underlying41 rfl (infoN _ _ _)) rfl ?_
  exact ⟨rfl, ((HB.out.setCell (Nat.le_succ _) _).setCell (Nat.le_succ _) _).setCell (Nat.le_succ _) _⟩
end Go.Proofs.YtdmgaaaomleojaaGreatDoor
