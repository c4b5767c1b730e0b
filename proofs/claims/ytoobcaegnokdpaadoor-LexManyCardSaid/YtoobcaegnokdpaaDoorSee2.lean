/- gristmillsee's looks at an error, in general: an error whose fault is told, and any code. Conditions: what is said of the error's fault. -/
import Derived.Test.YtoobcaegnokdpaaDoorSee
namespace Go.Proofs.YtoobcaegnokdpaaDoor
open Go.RowKit

def sameB (c c' : Int) (p p' : Bool) (q q' : Int) : Bool := c == c' && (p == p' && q == q')
set_option maxRecDepth 100000 in
theorem samef_gen (c c' : Int) (p p' : Bool) (q q' : Int) (w : World) :
    Calls Tryd.prog 34 #[faultV c p q, faultV c' p' q'] w (Grew (.bool (sameB c c' p p' q q')) w) := by
  unfold faultV sameB
  cases h1 : (c == c') <;> cases h2 : (p == p') <;> cases h3 : (q == q')
  all_goals
    go_enter Tryd.func34, Tryd.ntmps34
    go_wp2_with fail
    go_ret
    exact ⟨rfl, ((Below.refl _ _).alloc (Nat.le_refl _) _).alloc (by simp) _⟩

set_option maxRecDepth 100000 in
theorem none_any (w : World) :
    Calls Tryd.prog 36 #[] w (Grew (faultV 0 false 0) w) := by
  go_enter Tryd.func36, Tryd.ntmps36
  go_wp2_with fail
  refine bodyPost_ret (results_cell_row rfl _ _ w.heap.size 50 _ (0, 0) _ rfl (heap_alloc_new w _) Tryd.underlying50 rfl (infoF 0 false 0)) rfl ?_
  exact ⟨rfl, (Below.refl _ _).alloc (Nat.le_refl _) _⟩

set_option maxRecDepth 100000 in
set_option maxHeartbeats 1000000 in
/-- gristmillsee.Fault, of none. -/
theorem fault_nil (w : World) : Calls Tryd.prog 35 #[.nilIface] w (Grew (faultV 0 false 0) w) := by
  have HB := Lib.hid none_any
  have hz : Below w.heap.size w (w.alloc (Obj.cells #[Value.int IntKind.i64 0, Value.bool false, Value.int IntKind.i64 0] 50)) := (Below.refl _ _).alloc (Nat.le_refl _) _
  have hr := RowAt.new 0 false 0 w
  go_enter Tryd.func35, Tryd.ntmps35
  go_wp2_with fail
  refine (HB.out _).mono ?_
  rintro e w2 ⟨rfl, hb2⟩
  replace hr := hr.below hb2
  have hx := hz.trans (hb2.mono (by simp))
  clear hz hb2
  have c0 := hr.c0
  have c1 := (hr.set0 0).c1
  have c2 := ((hr.set0 0).set1 false).c2
  have f0 := hr.frozen 0
  have f1 := (hr.set0 0).frozen 1
  have f2 := ((hr.set0 0).set1 false).frozen 2
  have hr3 := ((hr.set0 0).set1 false).set2 0
  have HR := Lib.hid hr3.row
  have HX := Lib.hid (((hx.setCell (p := ⟨w.heap.size, 0, none⟩) (Nat.le_refl _) (.int .i64 0)).setCell (p := ⟨w.heap.size, 1, none⟩) (Nat.le_refl _) (.bool false)).setCell (p := ⟨w.heap.size, 2, none⟩) (Nat.le_refl _) (.int .i64 0))
  clear hr hr3 hx
  unfold faultV
  go_wp2_with fail
  refine bodyPost_ret (results_cell_row rfl _ _ w.heap.size 50 _ (0, 0) _ rfl HR.out Tryd.underlying50 rfl (infoF 0 false 0)) rfl ?_
  exact ⟨rfl, HX.out⟩

set_option maxRecDepth 100000 in
set_option maxHeartbeats 1000000 in
/-- gristmillsee.Same, of an error whose fault is told. -/
theorem same_gen (v : Value) (c c' : Int) (p p' : Bool) (q q' : Int) (w : World)
    (H : Hid (∀ w1, Below w.heap.size w w1 → Calls Tryd.prog 35 #[v] w1 (Grew (faultV c p q) w1))) :
    Calls Tryd.prog 28 #[v, faultV c' p' q'] w (Grew (.bool (sameB c c' p p' q q')) w) := by
  obtain ⟨sb, hsb⟩ : ∃ sb, sb = sameB c c' p p' q q' := ⟨_, rfl⟩
  have HS := Lib.hid (samef_gen c c' p p' q q')
  rw [← hsb] at HS ⊢
  clear hsb
  have hz : Below w.heap.size w (w.alloc (Obj.cells #[Value.int IntKind.i64 c', Value.bool p', Value.int IntKind.i64 q'] 50)) := (Below.refl _ _).alloc (Nat.le_refl _) _
  have hr := RowAt.new c' p' q' w
  have HZ := Lib.hid hz.drew
  have HR : Hid (RowAt w.heap.size c' p' q' (w.alloc (Obj.cells #[Value.int IntKind.i64 c', Value.bool p', Value.int IntKind.i64 q'] 50)).drew) := Lib.hid ⟨hr.row⟩
  clear hz hr
  unfold faultV at *
  go_enter Tryd.func28, Tryd.ntmps28
  go_wp2_with fail
  go_region_with (first
    | (go_at_call 35; refine (H.out _ HZ.out).mono ?_; rintro e w1 ⟨rfl, hb1⟩; have hq := HR.out.below hb1; have hc0 := hq.c0; have hc1 := hq.c1; have hc2 := hq.c2; have HY := Lib.hid (HZ.out.trans (hb1.mono HZ.out.size)); clear hq hb1)
    | (go_at_call 34; refine (HS.out _).mono ?_; rintro e w2 ⟨rfl, hb2⟩; have HB2 := Lib.hid hb2; clear hb2))
  all_goals
    go_wp2_with fail
    go_ret
    exact ⟨rfl, HY.out.trans (HB2.out.mono HY.out.size)⟩

set_option maxRecDepth 100000 in
set_option maxHeartbeats 1000000 in
/-- gristmillsee.Is, of an error whose fault is told. -/
theorem is_gen (v : Value) (c c' : Int) (p : Bool) (q : Int) (w : World)
    (H : Hid (∀ w1, Below w.heap.size w w1 → Calls Tryd.prog 35 #[v] w1 (Grew (faultV c p q) w1))) :
    Calls Tryd.prog 16 #[v, .int .i64 c'] w (Grew (.bool (sameB c c' p false q 0)) w) := by
  obtain ⟨sb, hsb⟩ : ∃ sb, sb = sameB c c' p false q 0 := ⟨_, rfl⟩
  have HB := Lib.hid (bare_any c' w)
  have HS := Lib.hid fun w1 (hb : Below w.heap.size w w1) => same_gen v c c' p false q 0 w1 (Lib.hid fun w2 hb2 => H.out w2 (hb.trans (hb2.mono hb.size)))
  rw [← hsb] at HS ⊢
  clear hsb
  go_enter Tryd.func16, Tryd.ntmps16
  go_wp2_with fail
  refine HB.out.mono ?_
  rintro e w1 ⟨rfl, hb1⟩
  go_wp2_with fail
  refine (HS.out w1 hb1).mono ?_
  rintro e w2 ⟨rfl, hb2⟩
  go_wp2_with fail
  go_ret
  exact ⟨rfl, hb1.trans (hb2.mono hb1.size)⟩
end Go.Proofs.YtoobcaegnokdpaaDoor
