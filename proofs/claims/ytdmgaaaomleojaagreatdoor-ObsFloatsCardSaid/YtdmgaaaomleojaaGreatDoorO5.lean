/- Package obs, of a number's text: ofWord. Conditions: the listed variables as start-up lays them; 64 bits. -/
import Derived.Test.YtdmgaaaomleojaaGreatDoorO4
namespace Go.Proofs.YtdmgaaaomleojaaGreatDoor
open Go.RowKit

theorem all_tabs {w : World} (h : Fl.All w) : Tabs w := h.tabs.pow
theorem all_errs {w : World} (h : Fl.All w) : Errs w := ⟨h.errs.syn, h.errs.rng⟩

/-- a row that was made ahead of a call stands behind it -/
theorem kept1 {w w1 : World} {cs : Array Value} {t : TypeId} (hb : Below (w.alloc (.cells cs t)).heap.size (w.alloc (.cells cs t)) w1) :
    (∀ i, w1.cell? ⟨w.heap.size, i, none⟩ = cs[i]?) ∧ (∀ i, w1.frozen? ⟨w.heap.size, i, none⟩ = false) ∧ w1.heap[w.heap.size]? = some (.cells cs t (0, 0)) ∧ Below w.heap.size w w1 := by
  have h1 := Below.alloc (Below.refl w.heap.size w) (Nat.le_refl _) (.cells cs t)
  refine ⟨fun i => ?_, fun i => ?_, ?_, h1.trans (hb.mono (by simp))⟩
  · rw [hb.cell (show w.heap.size < _ by simp)]
    exact World.cell?_alloc_at _ _ _ _ rfl
  · rw [hb.frozen (show w.heap.size < _ by simp)]
    exact World.frozen?_alloc_new _ _ _ _
  · rw [hb.block w.heap.size (by simp)]
    exact heap_alloc_new w _
theorem row_set {w : World} {g i : Nat} {cs : Array Value} {t : TypeId} {f : Nat × Nat} (v : Value) (h : w.heap[g]? = some (.cells cs t f)) : (w.setCell ⟨g, i, none⟩ v).heap[g]? = some (.cells (cs.setIfInBounds i v) t f) := by
  simp [World.setCell, Array.getElem?_modify, h]
/-- an observation is written into its row -/
theorem obs_row {w : World} {g : Nat} {cs : Array Value} {t : TypeId} (h : w.heap[g]? = some (.cells cs t (0, 0))) (hs : cs.size = 4) (a b c d : Value) :
    ((((w.setCell ⟨g, 0, none⟩ a).setCell ⟨g, 1, none⟩ b).setCell ⟨g, 2, none⟩ c).setCell ⟨g, 3, none⟩ d).heap[g]? = some (.cells #[a, b, c, d] t (0, 0)) := by
  have := row_set d (row_set c (row_set b (row_set a h (i := 0)) (i := 1)) (i := 2)) (i := 3)
  rw [this]
  obtain ⟨l⟩ := cs
  match l, hs with
  | [x, y, z, u], _ => rfl
theorem infoO (a b c d : Value) : (Tryz.prog.info? 27).map (·.size) = some (#[a, b, c, d]).size := by
  show _ = some 4
  kernel_rfl

set_option maxRecDepth 100000 in
set_option maxHeartbeats 2000000 in
theorem ofWord_int (s : ByteArray) (v : Int) (h : Okt s) (hn : NumIs s.data.toList v) (w : World) (hw : Fl.All w) :
    Calls Tryz.prog 31 #[.string s] w (Grew (leafV 1 v) w) := by
  have H1 : ∀ w, Hid (Calls Tryz.prog 43 #[.string s] w fun e w' => e = .returned (.bool false) ∧ w = w') := fun w => Lib.hid (by rw [← okt_upper h]; exact upper_any s (by have := h.small; omega) w)
  have H2 := fun w1 (hb : Below w.heap.size w w1) => Lib.hid (parse_yes s v hn w1 (all_tabs (hw.below hb)))
  have e1 : (s.toList == [60, 102, 110, 62]) = false := by
    rw [ByteArray.toList_eq, beq_eq_false_iff_ne]
    intro e
    exact okt_no h 60 rfl (by rw [e]; simp)
  have e2 : (s.toList == [95]) = false := by
    rw [ByteArray.toList_eq, beq_eq_false_iff_ne]
    intro e
    exact okt_no h 95 rfl (by rw [e]; simp)
  clear h hn hw
  unfold leafV
  go_enter Tryz.func31, Tryz.ntmps31
  go_wp2_with fail
  refine ((H1 _).out).mono ?_
  rintro e w1 ⟨rfl, rfl⟩
  go_wp2_with fail
  refine ((H2 _ (Below.alloc (Below.refl _ _) (Nat.le_refl _) _)).out).mono ?_
  rintro e w2 ⟨rfl, hb2⟩
  obtain ⟨k1, k2, k3, k4⟩ := kept1 hb2
  clear hb2
  have c0 := k1 0
  have c1 := k1 1
  have c2 := k1 2
  have c3 := k1 3
  simp only [List.getElem?_toArray, List.getElem?_cons_zero, List.getElem?_cons_succ] at c0 c1 c2 c3
  clear k1
  have HB := Lib.hid k4
  clear k4
  go_wp2_with fail
  refine bodyPost_ret (results_cell_row rfl _ _ w.heap.size 27 _ (0, 0) _ rfl (obs_row k3 rfl _ _ _ _) Tryz.underlying27 rfl (infoO _ _ _ _)) rfl ?_
  exact ⟨rfl, (((HB.out.setCell (Nat.le_refl _) _).setCell (Nat.le_refl _) _).setCell (Nat.le_refl _) _).setCell (Nat.le_refl _) _⟩

set_option maxRecDepth 100000 in
set_option maxHeartbeats 2000000 in
theorem ofWord_flo (s : ByteArray) (a c : Nat) (n : Int) (ha : a < 18446744073709551616) (hs : s.data.toList = Fl.textL a) (hc : Fl.canonN a = c) (hn : IntKind.i64.wrap (c : Int) = n) (w : World) (hw : Fl.All w) :
    Calls Tryz.prog 31 #[.string s] w (Grew (leafV 2 n) w) := by
  have h : Okt s := by
    have := okt_text a ha
    have e : s = ⟨(Fl.textL a).toArray⟩ := by
      obtain ⟨⟨l⟩⟩ := s
      simp at hs
      rw [hs]
    rw [e]; exact this
  have H1 : ∀ w, Hid (Calls Tryz.prog 43 #[.string s] w fun e w' => e = .returned (.bool false) ∧ w = w') := fun w => Lib.hid (by rw [← okt_upper h]; exact upper_any s (by have := h.small; omega) w)
  obtain ⟨tp, p, hv⟩ := hw.errs.num
  have H2 := fun w1 (hb : Below w.heap.size w w1) => Lib.hid (parse_none s (fun v hv => text_nonum a ha v (by rw [← hs]; exact hv)) tp p w1 (all_tabs (hw.below hb)) (all_errs (hw.below hb)) (var_below hb globNum hv))
  have H3 : ∀ w1, Below w.heap.size w w1 → Hid (Calls Tryz.prog 49 #[.string s] w1 (Fl.Ret2 (.int .u64 c) .nilIface w1)) := fun w1 hb => Lib.hid (by have := Fl.parse_yes s a ha hs w1 (hw.below hb); rw [hc] at this; exact this)
  have e1 : (s.toList == [60, 102, 110, 62]) = false := by
    rw [ByteArray.toList_eq, beq_eq_false_iff_ne]
    intro e
    exact okt_no h 60 rfl (by rw [e]; simp)
  have e2 : (s.toList == [95]) = false := by
    rw [ByteArray.toList_eq, beq_eq_false_iff_ne]
    intro e
    exact okt_no h 95 rfl (by rw [e]; simp)
  clear h hs hw hv hc
  unfold leafV
  go_enter Tryz.func31, Tryz.ntmps31
  go_wp2_with fail
  refine ((H1 _).out).mono ?_
  rintro e w1 ⟨rfl, rfl⟩
  go_wp2_with fail
  have hb1 := Below.alloc (Below.refl w.heap.size w) (Nat.le_refl _) (.cells #[.int .i64 0, .int .i64 0, .string ⟨#[]⟩, .slice none 0 0] 27)
  refine ((H2 _ hb1).out).mono ?_
  rintro e w2 ⟨rfl, hb2⟩
  have hb12 := hb1.trans (hb2.mono hb1.size)
  have HB2 := Lib.hid hb2
  clear hb1 hb2
  go_wp2_with fail
  refine ((H3 _ hb12).out).mono ?_
  rintro e w3 ⟨rfl, hb3⟩
  obtain ⟨k1, k2, k3, k4⟩ := kept1 (HB2.out.trans (hb3.mono HB2.out.size))
  clear hb3 hb12
  have c0 := k1 0
  have c1 := k1 1
  have c2 := k1 2
  have c3 := k1 3
  simp only [List.getElem?_toArray, List.getElem?_cons_zero, List.getElem?_cons_succ] at c0 c1 c2 c3
  clear k1
  have HB := Lib.hid k4
  clear k4
  go_wp2_with fail
  refine bodyPost_ret (results_cell_row rfl _ _ w.heap.size 27 _ (0, 0) _ rfl (obs_row k3 rfl _ _ _ _) Tryz.underlying27 rfl (infoO _ _ _ _)) rfl ?_
  exact ⟨by rw [← hn], (((HB.out.setCell (Nat.le_refl _) _).setCell (Nat.le_refl _) _).setCell (Nat.le_refl _) _).setCell (Nat.le_refl _) _⟩
end Go.Proofs.YtdmgaaaomleojaaGreatDoor
