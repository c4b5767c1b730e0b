/- tree.Text of one word. Conditions: the text is short and not empty. -/
import Derived.Test.YtdmgaaaomleojaaGreatDoorO7
namespace Go.Proofs.YtdmgaaaomleojaaGreatDoor
open Go.RowKit

theorem below_freeze {B : Nat} {a w : World} (h : Below B a w) {g n : Nat} (hg : B ≤ g) : Below B a (w.freeze ⟨g, 0, none⟩ n) := by
  unfold World.freeze
  split
  · exact h
  · refine h.trans ⟨rfl, rfl, rfl, by simp, fun k hk => ?_⟩
    simp only [Array.getElem?_modify]
    rw [if_neg (by omega)]

set_option maxRecDepth 100000 in
set_option maxHeartbeats 1000000 in
theorem isList_leaf (s : ByteArray) (h0 : s.size ≠ 0) (w : World) : Calls Tryz.prog 35 #[nodeV s] w (Grew (.bool false) w) := by
  have hs : (s.toList == []) = false := by
    rw [ByteArray.toList_eq, beq_eq_false_iff_ne]
    intro e
    apply h0
    rw [Lib.size_eq, e]; rfl
  have hs2 : s.toList.isEmpty = false := by
    rw [ByteArray.toList_eq]
    cases hl : s.data.toList with
    | nil => exact absurd (by rw [Lib.size_eq, hl]; rfl) h0
    | cons _ _ => rfl
  unfold nodeV
  go_enter Tryz.func35, Tryz.ntmps35
  go_wp2_with fail
  go_ret
  exact ⟨rfl, Below.alloc (Below.refl _ _) (Nat.le_refl _) _⟩

set_option maxRecDepth 100000 in
set_option maxHeartbeats 2000000 in
theorem write_leaf (s : ByteArray) (nb b B : Nat) (w : World) (hB : B ≤ b) (hn : w.heap[nb]? = some (.cells #[.string s, .slice none 0 0, .int .i64 0] 41 (0, 0)))
    (hb : w.heap[b]? = some (.cells #[.pointer none, .slice none 0 0] 55 (0, 0))) (h0 : s.size ≠ 0) (hs : s.size ≤ 1000000) :
    Calls Tryz.prog 20 #[.pointer (some ⟨b, 0, none⟩), .slice (some ⟨nb, 0, none⟩) 1 1] w fun e w' => e = .returned (.tuple #[]) ∧ Held s b B w w' := by
  have hblt : b < w.heap.size := by
    rcases Nat.lt_or_ge b w.heap.size with h | h
    · exact h
    · rw [Array.getElem?_eq_none h] at hb; simp at hb
  have H1 := fun w => Lib.hid (isList_leaf s h0 w)
  have H2 := fun w hb => Lib.hid (ws_fresh b B s w hB hb h0 hs)
  have c0 : w.cell? ⟨nb, 0, none⟩ = some (.string s) := by simp [World.cell?, hn]
  have c1 : w.cell? ⟨nb, 1, none⟩ = some (.slice none 0 0) := by simp [World.cell?, hn]
  have c2 : w.cell? ⟨nb, 2, none⟩ = some (.int .i64 0) := by simp [World.cell?, hn]
  have HB := Lib.hid hb
  clear hn hb
  unfold nodeV at *
  go_enter Tryz.func20, Tryz.ntmps20
  go_wp2_with fail
  go_loopw [8] (fun vi wr => (vi = .int .i64 0 ∧ wr = w) ∨ (vi = .int .i64 1 ∧ Hid (Held s b B w wr))) (fun vi _ => 2 - (intOf vi).toNat)
  case atStart => exact .inl ⟨rfl, rfl⟩
  case round =>
    rcases hrel with ⟨rfl, rfl⟩ | ⟨rfl, hh⟩
    · go_wp2_with fail
      refine ((H1 _).out).mono ?_
      rintro e w1 ⟨rfl, hb1⟩
      obtain ⟨k1, k2, k3, k4⟩ := kept1 hb1
      have d0 : w1.cell? ⟨wr.heap.size, 0, none⟩ = some (.string s) := k1 0
      have hbb := (k4.block b hblt).trans HB.out
      have HK := Lib.hid (k4.mono (show B ≤ wr.heap.size by omega))
      clear k1 k2 k3 k4 hb1
      have H3 := H2 w1 hbb
      clear hbb
      go_wp2_with fail
      refine H3.out.mono ?_
      rintro e w2 ⟨rfl, hh⟩
      have HH : Hid (Held s b B wr w2) := Lib.hid ⟨HK.out.trans hh.below, hh.row⟩
      clear hh
      go_wp2_with fail
      go_roundw
      case rel => exact .inr ⟨by go_num, HH⟩
      case measure => simp [intOf]
    · go_wp2_with fail
      go_end0
      exact ⟨rfl, hh.out⟩

set_option maxRecDepth 100000 in
set_option maxHeartbeats 2000000 in
theorem ttext_leaf (s : ByteArray) (nb : Nat) (w : World) (hn : w.heap[nb]? = some (.cells #[.string s, .slice none 0 0, .int .i64 0] 41 (0, 0))) (h0 : s.size ≠ 0) (hs : s.size ≤ 1000000) :
    Calls Tryz.prog 11 #[.slice (some ⟨nb, 0, none⟩) 1 1] w (Grew (.string s) w) := by
  have hnlt : nb < w.heap.size := by
    rcases Nat.lt_or_ge nb w.heap.size with h | h
    · exact h
    · rw [Array.getElem?_eq_none h] at hn; simp at hn
  have H1 := fun w1 hn1 hb1 => Lib.hid (write_leaf s nb w.heap.size w.heap.size w1 (Nat.le_refl _) hn1 hb1 h0 hs)
  have H2 := fun (w1 : World) (hh : Held s w.heap.size w.heap.size (w.alloc (.cells #[.pointer none, .slice none 0 0] 55)) w1) => Lib.hid (show ∃ g, w.heap.size ≤ g ∧ Calls Tryz.prog 21 #[.pointer (some ⟨w.heap.size, 0, none⟩)] w1 fun e w' => e = .returned (.string s) ∧ w' = w1.drew.freeze ⟨g, 0, none⟩ s.data.toList.length by
    obtain ⟨g, c, cells, r1, r2, r3, r4, r5, r6⟩ := hh.row
    have hsz := Lib.size_eq s
    rw [hsz] at r1 r3 r4
    refine ⟨g, r5, ?_⟩
    have := str_row w.heap.size g c cells s.data.toList w1 r1 r2 (fun e => h0 (by rw [hsz, e]; rfl)) r3 (by omega) r4 r6
    exact this)
  have hn1 := (Below.heap_alloc w (.cells #[.pointer none, .slice none 0 0] 55) nb hnlt).trans hn
  have hb1 := heap_alloc_new w (.cells #[.pointer none, .slice none 0 0] 55)
  have H3 := H1 _ hn1 hb1
  clear H1 hn1 hb1 hn
  go_enter Tryz.func11, Tryz.ntmps11
  go_wp2_with fail
  refine H3.out.mono ?_
  rintro e w1 ⟨rfl, hh⟩
  have HH := Lib.hid hh
  obtain ⟨g, hg, H4⟩ := (H2 w1 hh).out
  have H5 := Lib.hid H4
  clear hh H4
  go_wp2_with fail
  refine H5.out.mono ?_
  rintro e w2 ⟨rfl, rfl⟩
  go_wp2_with fail
  go_ret
  exact ⟨rfl, below_freeze (((Below.refl _ w).alloc (Nat.le_refl _) _).trans HH.out.below).drew hg⟩

set_option maxRecDepth 100000 in
set_option maxHeartbeats 2000000 in
/-- obs.Text of an observation that has no parts, out of what it calls -/
theorem Text_leaf (k n : Int) (s : ByteArray) (w : World) (h0 : s.size ≠ 0) (hs : s.size ≤ 1000000)
    (hv : ∀ w1, Below w.heap.size w w1 → Calls Tryz.prog 9 #[leafV k n] w1 (Grew (.bool true) w1))
    (hw : ∀ w1, Below w.heap.size w w1 → Calls Tryz.prog 22 #[leafV k n] w1 (Grew (.string s) w1)) :
    Calls Tryz.prog 7 #[leafV k n] w (Grew (.string s) w) := by
  have H1 := Lib.hid hv
  have H2 := fun (w1 : World) (hb : Below w.heap.size w w1) => Lib.hid (node_leaf k n s w1 fun w2 hb2 => hw w2 (hb.trans (hb2.mono hb.size)))
  have H3 := fun (w1 : World) hn => Lib.hid (ttext_leaf s w1.heap.size (w1.alloc (.cells #[.string s, .slice none 0 0, .int .i64 0] 41)) hn h0 hs)
  clear hv hw
  unfold leafV nodeV at *
  go_enter Tryz.func7, Tryz.ntmps7
  go_wp2_with fail
  have hb1 := Below.alloc (Below.refl w.heap.size w) (Nat.le_refl _) (.cells #[.int .i64 k, .int .i64 n, .string ⟨#[]⟩, .slice none 0 0] 27)
  refine (H1.out _ hb1).mono ?_
  rintro e w1 ⟨rfl, hc1⟩
  obtain ⟨k1, k2, k3, k4⟩ := kept1 hc1
  have d0 := k1 0
  have d1 := k1 1
  have d2 := k1 2
  have d3 := k1 3
  simp only [List.getElem?_toArray, List.getElem?_cons_zero, List.getElem?_cons_succ] at d0 d1 d2 d3
  clear k1 k2 k3 hc1 hb1
  have H4 := H2 _ k4
  have HB := Lib.hid k4
  clear k4
  go_wp2_with fail
  refine H4.out.mono ?_
  rintro e w2 ⟨rfl, hc2⟩
  have HC := Lib.hid (HB.out.trans (hc2.mono HB.out.size))
  have H5 := H3 w2 (heap_alloc_new _ _)
  clear hc2
  go_wp2_with fail
  refine H5.out.mono ?_
  rintro e w3 ⟨rfl, hc3⟩
  have HD := Lib.hid ((HC.out.alloc HC.out.size _).trans (hc3.mono (by have := HC.out.size; simp; omega)))
  clear hc3
  go_wp2_with fail
  go_ret
  exact ⟨rfl, HD.out⟩
end Go.Proofs.YtdmgaaaomleojaaGreatDoor
