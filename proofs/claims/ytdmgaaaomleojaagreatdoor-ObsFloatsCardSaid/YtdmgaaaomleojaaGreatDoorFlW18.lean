/- W18 of stage 1: floats. -/
import Derived.Test.YtdmgaaaomleojaaGreatDoorFlGs
namespace Go.Proofs.YtdmgaaaomleojaaGreatDoor.Fl
open Go.RowKit Ieee
set_option maxRecDepth 100000 in
set_option maxHeartbeats 1000000 in
theorem parse_nogo (s : ByteArray) (v : Nat) (tp : TypeId) (p : Value) (w : World)
    (hv : ∀ w1, Below w.heap.size w w1 → w1.cell? ⟨3, 0, none⟩ = some (.iface tp p))
    (h1 : Calls Tryz.prog 70 #[.string s] w (Ret2 (.int .u64 (v : Nat)) (.bool false) w)) :
    Calls Tryz.prog 49 #[.string s] w (Ret2 (.int .u64 0) (.iface tp p) w) := by
  have HV := Lib.hid hv
  have H1 := Lib.hid h1
  clear hv h1
  go_enter Tryz.func49, Tryz.ntmps49
  go_wp2_with fail
  refine H1.out.mono ?_
  rintro e w1 ⟨rfl, hb1⟩
  have hc := HV.out w1 hb1
  go_wp2_with fail
  go_region
  all_goals
    go_wp2
    go_ret2
    exact ⟨rfl, Below.drew hb1⟩
set_option maxRecDepth 100000 in
set_option maxHeartbeats 1000000 in
theorem parse_differs (s x : ByteArray) (v : Nat) (tp : TypeId) (p : Value) (w : World) (hx : (x.toList == s.toList) = false)
    (hv : ∀ w1, Below w.heap.size w w1 → w1.cell? ⟨3, 0, none⟩ = some (.iface tp p))
    (h1 : Calls Tryz.prog 70 #[.string s] w (Ret2 (.int .u64 (v : Nat)) (.bool true) w))
    (h2 : ∀ w1, Below w.heap.size w w1 → Calls Tryz.prog 38 #[.int .u64 (v : Nat)] w1 (Grew (.string x) w1)) :
    Calls Tryz.prog 49 #[.string s] w (Ret2 (.int .u64 0) (.iface tp p) w) := by
  have HV := Lib.hid hv
  have H1 := Lib.hid h1
  have H2 := Lib.hid h2
  clear hv h1 h2
  go_enter Tryz.func49, Tryz.ntmps49
  go_wp2_with fail
  refine H1.out.mono ?_
  rintro e w1 ⟨rfl, hb1⟩
  go_wp2_with fail
  refine (H2.out w1 hb1).mono ?_
  rintro e w2 ⟨rfl, hb2⟩
  have hb := hb1.trans (hb2.mono hb1.size)
  have hc := HV.out w2 hb
  go_wp2_with fail
  go_region
  all_goals
    go_wp2
    go_ret2
    exact ⟨rfl, Below.drew hb⟩
set_option maxRecDepth 100000 in
set_option maxHeartbeats 1000000 in
theorem parse_same (s x : ByteArray) (v : Nat) (w : World) (hx : (x.toList == s.toList) = true)
    (h1 : Calls Tryz.prog 70 #[.string s] w (Ret2 (.int .u64 (v : Nat)) (.bool true) w))
    (h2 : ∀ w1, Below w.heap.size w w1 → Calls Tryz.prog 38 #[.int .u64 (v : Nat)] w1 (Grew (.string x) w1)) :
    Calls Tryz.prog 49 #[.string s] w (Ret2 (.int .u64 (v : Nat)) .nilIface w) := by
  have H1 := Lib.hid h1
  have H2 := Lib.hid h2
  clear h1 h2
  go_enter Tryz.func49, Tryz.ntmps49
  go_wp2_with fail
  refine H1.out.mono ?_
  rintro e w1 ⟨rfl, hb1⟩
  go_wp2_with fail
  refine (H2.out w1 hb1).mono ?_
  rintro e w2 ⟨rfl, hb2⟩
  have hb := hb1.trans (hb2.mono hb1.size)
  go_wp2_with fail
  go_ret2
  exact ⟨rfl, hb⟩
/-- The texts' tables and the errors. -/
structure All (w : World) : Prop where
  tabs : Tabs w
  errs : Errs w
theorem All.below {w w' : World} (h : All w) (hb : Below w.heap.size w w') : All w' := ⟨h.tabs.below hb, h.errs.below hb⟩
theorem text_canon (a : Nat) : textL (canonN a) = textL a := by
  cases hx : nanB a
  · rw [canon_of_num hx]
  · rw [canon_of_nan hx]
    unfold textL
    rw [hx, show nanB 9221120237041090560 = true by decide, if_pos rfl, if_pos rfl]
/-- FLO.PARSE of a float's text. -/
theorem parse_yes (s : ByteArray) (a : Nat) (ha : a < 18446744073709551616) (hs : s.data.toList = textL a) (w : World) (h : All w) :
    Calls Tryz.prog 49 #[.string s] w (Ret2 (.int .u64 (canonN a : Nat)) .nilIface w) := by
  obtain ⟨v, b, hv, h1, h2⟩ := guess_any s w h.errs
  obtain ⟨rfl, rfl⟩ := h1 a ha hs
  refine parse_same s ⟨(textL (canonN a)).toArray⟩ (canonN a) w ?_ h2 fun w1 hb => text_any _ hv w1 (h.tabs.below hb)
  rw [ByteArray.toList_eq, ByteArray.toList_eq, hs, text_canon, beq_iff_eq]
/-- FLO.PARSE of any other text. -/
theorem parse_none (s : ByteArray) (hs : ∀ a, a < 18446744073709551616 → s.data.toList ≠ textL a) (tp : TypeId) (p : Value) (w : World) (h : All w)
    (hv : w.var? Tryz.prog "gristmill/api.ErrNumber" = some #[.iface tp p]) :
    Calls Tryz.prog 49 #[.string s] w (Ret2 (.int .u64 0) (.iface tp p) w) := by
  have hc : ∀ w1, Below w.heap.size w w1 → w1.cell? ⟨3, 0, none⟩ = some (.iface tp p) := fun w1 hb => cell_of_var glob0 (var_below hb glob0 hv)
  obtain ⟨v, b, hv, h1, h2⟩ := guess_any s w h.errs
  cases b
  · exact parse_nogo s v tp p w hc h2
  · refine parse_differs s ⟨(textL v).toArray⟩ v tp p w ?_ hc h2 fun w1 hb => text_any v hv w1 (h.tabs.below hb)
    rw [ByteArray.toList_eq, ByteArray.toList_eq, Bool.eq_false_iff]
    intro e
    rw [beq_iff_eq] at e
    exact hs v hv e.symm
end Go.Proofs.YtdmgaaaomleojaaGreatDoor.Fl
