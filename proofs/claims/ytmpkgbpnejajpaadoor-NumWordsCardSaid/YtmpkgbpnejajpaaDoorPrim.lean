/- num's table of prims: find, Arity, Floaty, Prims. Conditions: the table as start-up lays it. -/
import Derived.Test.YtmpkgbpnejajpaaDoorNum4
import Derived.Test.YtmpkgbpnejajpaaDoorFlat
import Derived.Test.YtmpkgbpnejajpaaDoorTexts
import Derived.Laws.Rows
namespace Go.Proofs.YtmpkgbpnejajpaaDoor
open Go.RowKit

theorem block_of_var {W : World} {n : String} {g : Nat} {cs : Array Value} (hg : Tryd.prog.globalNamed n = some g) (h : W.var? Tryd.prog n = some cs) : ∃ t fr, W.heap[g]? = some (.cells cs t fr) := by
  unfold World.var? at h
  rw [hg] at h
  simp only [Option.bind_some] at h
  split at h
  · rename_i c t fr e
    injection h with h
    subst h
    exact ⟨t, fr, e⟩
  · cases h

/-- The table's cells. -/
def primVs : List Value := (flatN 3 (Rows.laid_gristmill_num_prims : DataW Unit)).getD []
def primA : Array Value := primVs.toArray
theorem primVs_eq : flatN 3 (Rows.laid_gristmill_num_prims : DataW Unit) = some primVs := rfl
def PrimsIs (W : World) : Prop := W.var? Tryd.prog "gristmill/num.prims" = some primA
theorem globPrims : Tryd.prog.globalNamed "gristmill/num.prims" = some 1 := by kernel_rfl
theorem PrimsIs.below {w w' : World} (h : PrimsIs w) (hb : Below w.heap.size w w') : PrimsIs w' := var_below hb globPrims h

def nmL : List ByteArray := [⟨#[43]⟩, ⟨#[45]⟩, ⟨#[42]⟩, ⟨#[100, 105, 118]⟩, ⟨#[109, 111, 100]⟩, ⟨#[60]⟩, ⟨#[61]⟩, ⟨#[102, 43]⟩, ⟨#[102, 45]⟩, ⟨#[102, 42]⟩, ⟨#[102, 47]⟩, ⟨#[102, 60]⟩, ⟨#[102, 61]⟩, ⟨#[102, 108, 111, 97, 116]⟩, ⟨#[119, 104, 111, 108, 101]⟩, ⟨#[115, 101, 113]⟩]
def nmA (i : Nat) : ByteArray := nmL.getD i ⟨#[]⟩
def arA (i : Nat) : Int := ([2, 2, 2, 2, 2, 2, 2, 2, 2, 2, 2, 2, 2, 1, 1, 2] : List Int).getD i 0
def flA (i : Nat) : Bool := ([false, false, false, false, false, false, false, true, true, true, true, false, false, true, false, false] : List Bool).getD i false

set_option maxRecDepth 100000 in
theorem idx_at (i : Nat) (hi : i < 16) (w : World) : (Instr.index 58 (.agg primA) (.int .i64 (i : Int))).run Tryd.prog w = .ok (.agg #[.string (nmA i), .int .i64 (arA i), .bool (flA i)]) w := by
  rcases i with _ | _ | _ | _ | _ | _ | _ | _ | _ | _ | _ | _ | _ | _ | _ | _ | i
  all_goals first | (exfalso; omega) | kernel_rfl

theorem infoT : (Tryd.prog.info? 58).map (·.size) = some primA.size := by kernel_rfl
theorem infoP (a b c : Value) : (Tryd.prog.info? 50).map (·.size) = some (#[a, b, c]).size := by
  show _ = some 3
  kernel_rfl

theorem results_row_tmp {P : Program} {fn : Func} {p u : Tmp} {ty : TypeId} (h : fn.results = #[.cell p ty, .tmp u]) (tmps : Array Value) (w : World) (g : Nat) (t : TypeId) (cs : Array Value) (fr : Nat × Nat) (d : TypeDesc)
    (hp : tmps.getD p undef = .pointer (some ⟨g, 0, none⟩)) (hg : w.heap[g]? = some (.cells cs t fr))
    (hu : P.underlying ty = some d) (hd : (match d with | .struct _ | .array _ _ => true | _ => false) = true) (hi : (P.info? ty).map (·.size) = some cs.size) (v : Value) (hv : tmps.getD u undef = v) :
    (results fn tmps).run P w = .ok (.tuple #[.agg cs, v]) w := by
  have hp' : tmps[p]?.getD undef = .pointer (some ⟨g, 0, none⟩) := by simpa using hp
  have hv' : tmps[u]?.getD undef = v := by simpa using hv
  simp [results, h, hp', hv', asAddr, run_loadVar_row w g t ty cs fr d hg hu hd hi]

/-- A prim's row of cells, as a walk reads and writes it. -/
structure Row3 (nb : Nat) (T : TypeId) (a b c : Value) (w : World) : Prop where
  row : w.heap[nb]? = some (.cells #[a, b, c] T (0, 0))
section
variable {nb : Nat} {T : TypeId} {a b c : Value} {w : World}
theorem Row3.lt (h : Row3 nb T a b c w) : nb < w.heap.size := by
  rcases Nat.lt_or_ge nb w.heap.size with g | g
  · exact g
  · have := h.row
    rw [Array.getElem?_eq_none g] at this; cases this
theorem Row3.c0 (h : Row3 nb T a b c w) : w.cell? ⟨nb, 0, none⟩ = some a := (cell_of_row w nb 0 _ _ _ h.row).trans rfl
theorem Row3.c1 (h : Row3 nb T a b c w) : w.cell? ⟨nb, 1, none⟩ = some b := (cell_of_row w nb 1 _ _ _ h.row).trans rfl
theorem Row3.c2 (h : Row3 nb T a b c w) : w.cell? ⟨nb, 2, none⟩ = some c := (cell_of_row w nb 2 _ _ _ h.row).trans rfl
theorem Row3.frozen (h : Row3 nb T a b c w) (j : Nat) : w.frozen? ⟨nb, j, none⟩ = false := frozen_of_row w nb j _ _ h.row
theorem Row3.new (T : TypeId) (a b c : Value) (w : World) : Row3 w.heap.size T a b c (w.alloc (Obj.cells #[a, b, c] T)) := ⟨heap_alloc_new w _⟩
theorem Row3.alloc (h : Row3 nb T a b c w) (o : Obj) : Row3 nb T a b c (w.alloc o) := ⟨(heap_alloc_old w o h.lt).trans h.row⟩
theorem Row3.drew (h : Row3 nb T a b c w) : Row3 nb T a b c w.drew := ⟨h.row⟩
theorem Row3.below {w' : World} (h : Row3 nb T a b c w) (hb : Below w.heap.size w w') : Row3 nb T a b c w' := ⟨(hb.block _ h.lt).trans h.row⟩
theorem Row3.set0 (h : Row3 nb T a b c w) (d : Value) : Row3 nb T d b c (w.setCell ⟨nb, 0, none⟩ d) := ⟨(heap_setCell_same w nb 0 _ _ _ h.row).trans rfl⟩
theorem Row3.set1 (h : Row3 nb T a b c w) (d : Value) : Row3 nb T a d c (w.setCell ⟨nb, 1, none⟩ d) := ⟨(heap_setCell_same w nb 1 _ _ _ h.row).trans rfl⟩
theorem Row3.set2 (h : Row3 nb T a b c w) (d : Value) : Row3 nb T a b d (w.setCell ⟨nb, 2, none⟩ d) := ⟨(heap_setCell_same w nb 2 _ _ _ h.row).trans rfl⟩
end

set_option maxRecDepth 100000 in
set_option maxHeartbeats 4000000 in
theorem find_run (name : ByteArray) (i : Nat) (hi : i < 16) (w : World) (ht : PrimsIs w) (hno : ∀ k (_ : k < i), ((nmA k).toList == name.toList) = false) (hyes : ((nmA i).toList == name.toList) = true) :
    Calls Tryd.prog 28 #[.string name] w (Grew (.tuple #[.agg #[.string (nmA i), .int .i64 (arA i), .bool (flA i)], .bool true]) w) := by
  obtain ⟨tt, fr, hg⟩ := block_of_var globPrims ht
  have hlt : 1 < w.heap.size := by
    rcases Nat.lt_or_ge 1 w.heap.size with h' | h'
    · exact h'
    · rw [Array.getElem?_eq_none h'] at hg; cases hg
  have HN := Lib.hid hno
  have HY := Lib.hid hyes
  have hg1 : (w.alloc (Obj.cells #[Value.string { data := #[] }, Value.int IntKind.i64 0, Value.bool false] 50)).heap[1]? = some (.cells primA tt fr) := (heap_alloc_old w _ hlt).trans hg
  have HG := Lib.hid hg1
  have H0 := Lib.hid (Row3.new 50 (Value.string { data := #[] }) (Value.int IntKind.i64 0) (Value.bool false) w)
  have HB0 : Hid (Below w.heap.size w (w.alloc (Obj.cells #[Value.string { data := #[] }, Value.int IntKind.i64 0, Value.bool false] 50))) := Lib.hid ((Below.refl _ _).alloc (Nat.le_refl _) _)
  clear hno hyes hg1 hg ht hlt
  go_enter Tryd.func28, Tryd.ntmps28
  go_wp2_with (refine wpList_load_row rfl 58 (.global 1) rfl 1 rfl _ primA _ _ HG.out Tryd.underlying58 rfl infoT ?_)
  obtain ⟨nb, hnb⟩ : ∃ nb, nb = w.heap.size := ⟨_, rfl⟩
  rw [← hnb] at H0
  rw [← hnb]
  have HNB : Hid (w.heap.size ≤ nb) := Lib.hid (by omega)
  clear hnb
  go_loopw [7] (fun vi wr => ∃ k : Nat, k ≤ i ∧ vi = .int .i64 k ∧ Hid (Row3 nb 50 (Value.string { data := #[] }) (Value.int IntKind.i64 0) (Value.bool false) wr ∧ Below w.heap.size w wr)) (fun vi _ => i + 1 - (intOf vi).toNat)
  case atStart => exact ⟨0, by omega, rfl, Lib.hid ⟨H0.out, HB0.out⟩⟩
  case round =>
    obtain ⟨k, hk, rfl, hR⟩ := hrel
    have hsz : nb < wr.heap.size := hR.out.1.lt
    by_cases hki : k < i
    · have hne := HN.out k hki
      have hix := idx_at k (by omega)
      have hk16 : k < 16 := by omega
      go_wp2_with fail
      go_roundw
      case rel => exact ⟨k + 1, by omega, by go_num, Lib.hid ⟨hR.out.1.alloc _, hR.out.2.alloc hR.out.2.size _⟩⟩
      case measure => simp [intOf]; omega
    · obtain rfl : k = i := by omega
      have heq := HY.out
      have hix := idx_at k (by omega)
      have g0 := hR.out.1.c0
      have g1 := hR.out.1.c1
      have g2 := hR.out.1.c2
      have z0 := hR.out.1.frozen 0
      have z1 := hR.out.1.frozen 1
      have z2 := hR.out.1.frozen 2
      have HR := Lib.hid ((((hR.out.1.set0 (.string (nmA k))).set1 (.int .i64 (arA k))).set2 (.bool (flA k))).alloc (Obj.cells #[Value.string (nmA k), Value.int IntKind.i64 (arA k), Value.bool (flA k)] 50))
      have HX := Lib.hid ((((hR.out.2.setCell (p := ⟨nb, 0, none⟩) HNB.out (.string (nmA k))).setCell (p := ⟨nb, 1, none⟩) HNB.out (.int .i64 (arA k))).setCell (p := ⟨nb, 2, none⟩) HNB.out (.bool (flA k))).alloc (by simp; exact hR.out.2.size) (Obj.cells #[Value.string (nmA k), Value.int IntKind.i64 (arA k), Value.bool (flA k)] 50))
      go_wp2_with fail
      refine bodyPost_ret (results_row_tmp rfl _ _ nb 50 _ (0, 0) _ rfl HR.out.row Tryd.underlying50 rfl (infoP _ _ _) (.bool true) rfl) rfl ⟨rfl, HX.out⟩

set_option maxRecDepth 100000 in
set_option maxHeartbeats 4000000 in
theorem find_none (name : ByteArray) (w : World) (ht : PrimsIs w) (hno : ∀ k (_ : k < 16), ((nmA k).toList == name.toList) = false) :
    Calls Tryd.prog 28 #[.string name] w (Grew (.tuple #[.agg #[.string ⟨#[]⟩, .int .i64 0, .bool false], .bool false]) w) := by
  obtain ⟨tt, fr, hg⟩ := block_of_var globPrims ht
  have hlt : 1 < w.heap.size := by
    rcases Nat.lt_or_ge 1 w.heap.size with h' | h'
    · exact h'
    · rw [Array.getElem?_eq_none h'] at hg; cases hg
  have HN := Lib.hid hno
  have hg1 : (w.alloc (Obj.cells #[Value.string { data := #[] }, Value.int IntKind.i64 0, Value.bool false] 50)).heap[1]? = some (.cells primA tt fr) := (heap_alloc_old w _ hlt).trans hg
  have HG := Lib.hid hg1
  have H0 := Lib.hid (Row3.new 50 (Value.string { data := #[] }) (Value.int IntKind.i64 0) (Value.bool false) w)
  have HB0 : Hid (Below w.heap.size w (w.alloc (Obj.cells #[Value.string { data := #[] }, Value.int IntKind.i64 0, Value.bool false] 50))) := Lib.hid ((Below.refl _ _).alloc (Nat.le_refl _) _)
  clear hno hg1 hg ht hlt
  go_enter Tryd.func28, Tryd.ntmps28
  go_wp2_with (refine wpList_load_row rfl 58 (.global 1) rfl 1 rfl _ primA _ _ HG.out Tryd.underlying58 rfl infoT ?_)
  obtain ⟨nb, hnb⟩ : ∃ nb, nb = w.heap.size := ⟨_, rfl⟩
  rw [← hnb] at H0
  rw [← hnb]
  have HNB : Hid (w.heap.size ≤ nb) := Lib.hid (by omega)
  clear hnb
  go_loopw [7] (fun vi wr => ∃ k : Nat, k ≤ 16 ∧ vi = .int .i64 k ∧ Hid (Row3 nb 50 (Value.string { data := #[] }) (Value.int IntKind.i64 0) (Value.bool false) wr ∧ Below w.heap.size w wr)) (fun vi _ => 17 - (intOf vi).toNat)
  case atStart => exact ⟨0, by omega, rfl, Lib.hid ⟨H0.out, HB0.out⟩⟩
  case round =>
    obtain ⟨k, hk, rfl, hR⟩ := hrel
    have hsz : nb < wr.heap.size := hR.out.1.lt
    by_cases hki : k < 16
    · have hne := HN.out k hki
      have hix := idx_at k (by omega)
      go_wp2_with fail
      go_roundw
      case rel => exact ⟨k + 1, by omega, by go_num, Lib.hid ⟨hR.out.1.alloc _, hR.out.2.alloc hR.out.2.size _⟩⟩
      case measure => simp [intOf]; omega
    · have g0 := hR.out.1.c0
      have g1 := hR.out.1.c1
      have g2 := hR.out.1.c2
      have z0 := hR.out.1.frozen 0
      have z1 := hR.out.1.frozen 1
      have z2 := hR.out.1.frozen 2
      have HR := Lib.hid (((hR.out.1.set0 (.string ⟨#[]⟩)).set1 (.int .i64 0)).set2 (.bool false))
      have HX := Lib.hid (((hR.out.2.setCell (p := ⟨nb, 0, none⟩) HNB.out (.string ⟨#[]⟩)).setCell (p := ⟨nb, 1, none⟩) HNB.out (.int .i64 0)).setCell (p := ⟨nb, 2, none⟩) HNB.out (.bool false))
      go_wp2_with fail
      refine bodyPost_ret (results_row_tmp rfl _ _ nb 50 _ (0, 0) _ rfl HR.out.row Tryd.underlying50 rfl (infoP _ _ _) (.bool false) rfl) rfl ⟨rfl, HX.out⟩

/-- What Arity and Floaty say of a prim, and of what is none. -/
theorem arity_at (name : ByteArray) (i : Nat) (hi : i < 16) (w : World) (ht : PrimsIs w) (hno : ∀ k (_ : k < i), ((nmA k).toList == name.toList) = false) (hyes : ((nmA i).toList == name.toList) = true) :
    Calls Tryd.prog 13 #[.string name] w (Grew (.tuple #[.int .i64 (arA i), .bool true]) w) := by
  have H := Lib.hid (find_run name i hi w ht hno hyes)
  clear ht hno hyes
  go_enter Tryd.func13, Tryd.ntmps13
  go_wp2_with fail
  refine H.out.mono ?_
  rintro e w1 ⟨rfl, hb⟩
  have HB := Lib.hid (hb.alloc hb.size (Obj.cells #[Value.string (nmA i), Value.int IntKind.i64 (arA i), Value.bool (flA i)] 50))
  clear hb
  go_wp2_with fail
  go_ret2
  exact ⟨rfl, HB.out⟩
theorem arity_none (name : ByteArray) (w : World) (ht : PrimsIs w) (hno : ∀ k (_ : k < 16), ((nmA k).toList == name.toList) = false) :
    Calls Tryd.prog 13 #[.string name] w (Grew (.tuple #[.int .i64 0, .bool false]) w) := by
  have H := Lib.hid (find_none name w ht hno)
  clear ht hno
  go_enter Tryd.func13, Tryd.ntmps13
  go_wp2_with fail
  refine H.out.mono ?_
  rintro e w1 ⟨rfl, hb⟩
  have HB := Lib.hid (hb.alloc hb.size (Obj.cells #[Value.string ⟨#[]⟩, Value.int IntKind.i64 0, Value.bool false] 50))
  clear hb
  go_wp2_with fail
  go_ret2
  exact ⟨rfl, HB.out⟩
theorem floaty_at (name : ByteArray) (i : Nat) (hi : i < 16) (w : World) (ht : PrimsIs w) (hno : ∀ k (_ : k < i), ((nmA k).toList == name.toList) = false) (hyes : ((nmA i).toList == name.toList) = true) :
    Calls Tryd.prog 18 #[.string name] w (Grew (.bool (flA i)) w) := by
  have H := Lib.hid (find_run name i hi w ht hno hyes)
  clear ht hno hyes
  go_enter Tryd.func18, Tryd.ntmps18
  go_wp2_with fail
  refine H.out.mono ?_
  rintro e w1 ⟨rfl, hb⟩
  have HB := Lib.hid (hb.alloc hb.size (Obj.cells #[Value.string (nmA i), Value.int IntKind.i64 (arA i), Value.bool (flA i)] 50))
  clear hb
  go_wp2_with fail
  go_ret
  exact ⟨rfl, HB.out⟩
theorem floaty_none (name : ByteArray) (w : World) (ht : PrimsIs w) (hno : ∀ k (_ : k < 16), ((nmA k).toList == name.toList) = false) :
    Calls Tryd.prog 18 #[.string name] w (Grew (.bool false) w) := by
  have H := Lib.hid (find_none name w ht hno)
  clear ht hno
  go_enter Tryd.func18, Tryd.ntmps18
  go_wp2_with fail
  refine H.out.mono ?_
  rintro e w1 ⟨rfl, hb⟩
  have HB := Lib.hid (hb.alloc hb.size (Obj.cells #[Value.string ⟨#[]⟩, Value.int IntKind.i64 0, Value.bool false] 50))
  clear hb
  go_wp2_with fail
  go_ret
  exact ⟨rfl, HB.out⟩
end Go.Proofs.YtmpkgbpnejajpaaDoor
