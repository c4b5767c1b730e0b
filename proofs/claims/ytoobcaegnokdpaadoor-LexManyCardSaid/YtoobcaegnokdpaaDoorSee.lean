/- gristmillsee's looks at an error, of each of api's eighteen errors, bare. Conditions: api's errors are eighteen errors, unlike one another. -/
import Derived.Test.YtoobcaegnokdpaaDoorGrew
import Derived.LaidEql
import Derived.Laws.Rows
import Derived.Deep.RegionWith
namespace Go.Proofs.YtoobcaegnokdpaaDoor
open Go.RowKit

theorem isComp : (Tryd.prog.info? 66).map (·.comparable) = some true := by kernel_rfl
theorem isSize : ((Tryd.prog.info? 83).map (·.size)).map (fun n => n != 0) = some true := by kernel_rfl

theorem eql_err {W : World} (x a : Addr) {cx ca : Array Value} {tx ta : TypeId} (hx : W.heap[x.block]? = some (.cells cx tx (0, 0))) (ha : W.heap[a.block]? = some (.cells ca ta (0, 0))) :
    (binOp .eql 25 (.iface 66 (.pointer (some x))) (.iface 66 (.pointer (some a)))).run Tryd.prog W = .ok (.bool (decide (x = a))) W := by
  obtain ⟨i, hi, hcmp⟩ := Option.map_eq_some_iff.1 isComp
  obtain ⟨n, hn, hjs⟩ := Option.map_eq_some_iff.1 isSize
  obtain ⟨j, hj, rfl⟩ := Option.map_eq_some_iff.1 hn
  by_cases h : x = a
  · subst h
    simpa using run_eql_iface_ptr_same (P := Tryd.prog) W x Tryd.underlying25 Tryd.underlying66 hi hcmp hj
  · simpa [h] using run_eql_iface_ptr_other (P := Tryd.prog) W Tryd.underlying25 Tryd.underlying66 hi hcmp hj (by simpa using hjs) h hx ha

/-- A fault: its code, whether it has a place, the place. -/
def faultV (c : Int) (p : Bool) (q : Int) : Value := .agg #[.int .i64 c, .bool p, .int .i64 q]

theorem infoF (c : Int) (p : Bool) (q : Int) : (Tryd.prog.info? 50).map (·.size) = some (#[Value.int .i64 c, .bool p, .int .i64 q]).size := by
  show _ = some 3
  kernel_rfl

set_option maxRecDepth 100000 in
theorem bare_any (c : Int) (w : World) :
    Calls Tryd.prog 29 #[.int .i64 c] w (Grew (faultV c false 0) w) := by
  go_enter Tryd.func29, Tryd.ntmps29
  go_wp2_with fail
  refine bodyPost_ret (results_cell_row rfl _ _ w.heap.size 50 _ (0, 0) _ rfl (heap_alloc_new w _) Tryd.underlying50 rfl (infoF c false 0)) rfl ?_
  exact ⟨rfl, (Below.refl _ _).alloc (Nat.le_refl _) _⟩

set_option maxRecDepth 100000 in
theorem samef_any (c : Int) (p : Bool) (q : Int) (w : World) :
    Calls Tryd.prog 34 #[faultV c p q, faultV c p q] w (Grew (.bool true) w) := by
  unfold faultV
  go_enter Tryd.func34, Tryd.ntmps34
  go_wp2_with fail
  go_ret
  exact ⟨rfl, ((Below.refl _ _).alloc (Nat.le_refl _) _).alloc (by simp) _⟩

set_option maxRecDepth 100000 in
theorem alike_any (x a : Addr) (w : World) {cx ca : Array Value} {tx ta : TypeId} (hx : w.heap[x.block]? = some (.cells cx tx (0, 0))) (ha : w.heap[a.block]? = some (.cells ca ta (0, 0))) :
    Calls Tryd.prog 40 #[.iface 66 (.pointer (some x)), .iface 66 (.pointer (some a))] w fun e w' => e = .returned (.bool (decide (x = a))) ∧ w = w' := by
  have he := eql_err x a hx ha
  clear hx ha
  go_enter Tryd.func40, Tryd.ntmps40
  go_wp2_with fail
  go_ret
  exact ⟨rfl, rfl⟩

/-- Where api's errors lie: the variable of each, in the order of gristmillsee's list. -/
def errG (i : Nat) : Nat := ([1, 2, 3, 0, 4, 5, 6, 7, 8, 9, 10, 11, 12, 13, 14, 15, 16, 17] : List Nat).getD i 0
def errI (A : Nat → Addr) (i : Nat) : Value := .iface 66 (.pointer (some (A i)))
def errA (A : Nat → Addr) : Array Value := #[errI A 0, errI A 1, errI A 2, errI A 3, errI A 4, errI A 5, errI A 6, errI A 7, errI A 8, errI A 9, errI A 10, errI A 11, errI A 12, errI A 13, errI A 14, errI A 15, errI A 16, errI A 17]

set_option maxRecDepth 100000 in
set_option maxHeartbeats 4000000 in
theorem sentinels_any (A : Nat → Addr) (w : World) (h : ∀ i, i < 18 → w.cell? ⟨errG i, 0, none⟩ = some (errI A i)) :
    Calls Tryd.prog 39 #[] w fun e w' => e = .returned (.slice (some ⟨w.heap.size, 0, none⟩) 18 18) ∧ w' = w.alloc (Obj.cells (errA A) 25) := by
  have h0 : w.cell? ⟨1, 0, none⟩ = some (.iface 66 (.pointer (some (A 0)))) := h 0 (by omega)
  have h1 : w.cell? ⟨2, 0, none⟩ = some (.iface 66 (.pointer (some (A 1)))) := h 1 (by omega)
  have h2 : w.cell? ⟨3, 0, none⟩ = some (.iface 66 (.pointer (some (A 2)))) := h 2 (by omega)
  have h3 : w.cell? ⟨0, 0, none⟩ = some (.iface 66 (.pointer (some (A 3)))) := h 3 (by omega)
  have h4 : w.cell? ⟨4, 0, none⟩ = some (.iface 66 (.pointer (some (A 4)))) := h 4 (by omega)
  have h5 : w.cell? ⟨5, 0, none⟩ = some (.iface 66 (.pointer (some (A 5)))) := h 5 (by omega)
  have h6 : w.cell? ⟨6, 0, none⟩ = some (.iface 66 (.pointer (some (A 6)))) := h 6 (by omega)
  have h7 : w.cell? ⟨7, 0, none⟩ = some (.iface 66 (.pointer (some (A 7)))) := h 7 (by omega)
  have h8 : w.cell? ⟨8, 0, none⟩ = some (.iface 66 (.pointer (some (A 8)))) := h 8 (by omega)
  have h9 : w.cell? ⟨9, 0, none⟩ = some (.iface 66 (.pointer (some (A 9)))) := h 9 (by omega)
  have h10 : w.cell? ⟨10, 0, none⟩ = some (.iface 66 (.pointer (some (A 10)))) := h 10 (by omega)
  have h11 : w.cell? ⟨11, 0, none⟩ = some (.iface 66 (.pointer (some (A 11)))) := h 11 (by omega)
  have h12 : w.cell? ⟨12, 0, none⟩ = some (.iface 66 (.pointer (some (A 12)))) := h 12 (by omega)
  have h13 : w.cell? ⟨13, 0, none⟩ = some (.iface 66 (.pointer (some (A 13)))) := h 13 (by omega)
  have h14 : w.cell? ⟨14, 0, none⟩ = some (.iface 66 (.pointer (some (A 14)))) := h 14 (by omega)
  have h15 : w.cell? ⟨15, 0, none⟩ = some (.iface 66 (.pointer (some (A 15)))) := h 15 (by omega)
  have h16 : w.cell? ⟨16, 0, none⟩ = some (.iface 66 (.pointer (some (A 16)))) := h 16 (by omega)
  have h17 : w.cell? ⟨17, 0, none⟩ = some (.iface 66 (.pointer (some (A 17)))) := h 17 (by omega)
  clear h
  go_enter Tryd.func39, Tryd.ntmps39
  go_wp2_with fail
  go_ret
  exact ⟨rfl, rfl⟩

/-- Api's errors, as they lie in memory, unlike one another. -/
structure Sents (A : Nat → Addr) (w : World) : Prop where
  cell : ∀ i, i < 18 → w.cell? ⟨errG i, 0, none⟩ = some (errI A i)
  block : ∀ i, i < 18 → ∃ c t, w.heap[(A i).block]? = some (.cells c t (0, 0))
  apart : ∀ i j, i < j → j < 18 → A j ≠ A i

theorem Sents.below {A : Nat → Addr} {w w' : World} (h : Sents A w) (hb : Below w.heap.size w w') : Sents A w' :=
  ⟨fun i hi => by
    have hc := h.cell i hi
    have hlt : errG i < w.heap.size := by
      rcases Nat.lt_or_ge (errG i) w.heap.size with h' | h'
      · exact h'
      · simp [World.cell?, Array.getElem?_eq_none h'] at hc
    rw [hb.cell (p := ⟨errG i, 0, none⟩) hlt]; exact hc,
   fun i hi => by
    obtain ⟨c, t, e⟩ := h.block i hi
    have hlt : (A i).block < w.heap.size := by
      rcases Nat.lt_or_ge (A i).block w.heap.size with g | g
      · exact g
      · rw [Array.getElem?_eq_none g] at e; cases e
    exact ⟨c, t, (hb.block _ hlt).trans e⟩,
   h.apart⟩

theorem errA_get (A : Nat → Addr) (i : Nat) (hi : i < 18) : (errA A)[i]? = some (errI A i) := by
  unfold errA
  rcases i with _ | _ | _ | _ | _ | _ | _ | _ | _ | _ | _ | _ | _ | _ | _ | _ | _ | _ | _ <;> first | rfl | omega

set_option maxRecDepth 100000 in
set_option maxHeartbeats 4000000 in
theorem sentinel_any (A : Nat → Addr) (j : Nat) (hj : j < 18) (w : World) (h : Sents A w) :
    Calls Tryd.prog 37 #[errI A j] w (Grew (.int .i64 (101 + (j : Int))) w) := by
  have H := Lib.hid (sentinels_any A w h.cell)
  have HA := Lib.hid fun (w' : World) (hb : Below w.heap.size w w') (i : Nat) (hi : i < 18) => by
    have hs := h.below hb
    obtain ⟨c, t, e⟩ := hs.block j hj
    obtain ⟨c', t', e'⟩ := hs.block i hi
    exact alike_any (A j) (A i) w' e e'
  have HN := Lib.hid h.apart
  clear h
  unfold errI
  go_enter Tryd.func37, Tryd.ntmps37
  go_wp2_with fail
  refine H.out.mono ?_
  rintro e w1 ⟨rfl, rfl⟩
  have hcell : ∀ k, k < 18 → (w.alloc (Obj.cells (errA A) 25)).cell? ⟨w.heap.size, k, none⟩ = some (.iface 66 (.pointer (some (A k)))) := fun k hk => by
    rw [World.cell?_alloc_new]; exact errA_get A k hk
  have hbB : Below w.heap.size w (w.alloc (Obj.cells (errA A) 25)) := (Below.refl _ _).alloc (Nat.le_refl _) _
  have HC := Lib.hid hcell
  clear hcell
  obtain ⟨wB, hwB⟩ : ∃ wB, wB = w.alloc (Obj.cells (errA A) 25) := ⟨_, rfl⟩
  rw [← hwB] at HC hbB ⊢
  clear hwB
  obtain ⟨nb, hnb⟩ : ∃ nb, nb = w.heap.size := ⟨_, rfl⟩
  rw [← hnb] at HC ⊢
  clear hnb
  go_wp2_with fail
  go_loop [4] (fun vi => ∃ k : Nat, k ≤ j ∧ vi = .int .i64 k) (fun vi => 18 - (intOf vi).toNat)
  case atStart => exact ⟨0, by omega, rfl⟩
  case round =>
    obtain ⟨k, hk, rfl⟩ := hrel
    have hc := HC.out k (by omega)
    by_cases hkj : k < j
    · have hne := decide_eq_false (HN.out k j hkj hj)
      go_wp2_with fail
      refine (HA.out _ hbB k (by omega)).mono ?_
      rintro e w2 ⟨rfl, rfl⟩
      rw [hne]
      go_wp2_with fail
      go_round
      case rel => exact ⟨k + 1, by omega, by go_num⟩
      case measure => simp [intOf]; omega
    · obtain rfl : k = j := by omega
      go_wp2_with fail
      refine (HA.out _ hbB k (by omega)).mono ?_
      rintro e w2 ⟨rfl, rfl⟩
      rw [show decide (A k = A k) = true from decide_eq_true rfl]
      go_wp2_with fail
      go_ret
      exact ⟨rfl, hbB⟩

/-- A fault's row of cells, as a walk reads and writes it. -/
structure RowAt (nb : Nat) (c : Int) (p : Bool) (q : Int) (w : World) : Prop where
  row : w.heap[nb]? = some (.cells #[.int .i64 c, .bool p, .int .i64 q] 50 (0, 0))
theorem RowAt.c0 {nb : Nat} {c q : Int} {p : Bool} {w : World} (h : RowAt nb c p q w) : w.cell? ⟨nb, 0, none⟩ = some (.int .i64 c) := (cell_of_row w nb 0 _ _ _ h.row).trans rfl
theorem RowAt.c1 {nb : Nat} {c q : Int} {p : Bool} {w : World} (h : RowAt nb c p q w) : w.cell? ⟨nb, 1, none⟩ = some (.bool p) := (cell_of_row w nb 1 _ _ _ h.row).trans rfl
theorem RowAt.c2 {nb : Nat} {c q : Int} {p : Bool} {w : World} (h : RowAt nb c p q w) : w.cell? ⟨nb, 2, none⟩ = some (.int .i64 q) := (cell_of_row w nb 2 _ _ _ h.row).trans rfl
theorem RowAt.frozen {nb : Nat} {c q : Int} {p : Bool} {w : World} (h : RowAt nb c p q w) (j : Nat) : w.frozen? ⟨nb, j, none⟩ = false := frozen_of_row w nb j _ _ h.row
theorem RowAt.new (c : Int) (p : Bool) (q : Int) (w : World) : RowAt w.heap.size c p q (w.alloc (Obj.cells #[.int .i64 c, .bool p, .int .i64 q] 50)) := ⟨heap_alloc_new w _⟩
theorem RowAt.below {nb : Nat} {c q : Int} {p : Bool} {w w' : World} (h : RowAt nb c p q w) (hb : Below w.heap.size w w') : RowAt nb c p q w' := by
  have hlt : nb < w.heap.size := by
    rcases Nat.lt_or_ge nb w.heap.size with g | g
    · exact g
    · have := h.row
      rw [Array.getElem?_eq_none g] at this; cases this
  exact ⟨(hb.block _ hlt).trans h.row⟩
theorem RowAt.set0 {nb : Nat} {c q : Int} {p : Bool} {w : World} (h : RowAt nb c p q w) (d : Int) : RowAt nb d p q (w.setCell ⟨nb, 0, none⟩ (.int .i64 d)) := ⟨(heap_setCell_same w nb 0 _ _ _ h.row).trans rfl⟩
theorem RowAt.set1 {nb : Nat} {c q : Int} {p : Bool} {w : World} (h : RowAt nb c p q w) (d : Bool) : RowAt nb c d q (w.setCell ⟨nb, 1, none⟩ (.bool d)) := ⟨(heap_setCell_same w nb 1 _ _ _ h.row).trans rfl⟩
theorem RowAt.set2 {nb : Nat} {c q : Int} {p : Bool} {w : World} (h : RowAt nb c p q w) (d : Int) : RowAt nb c p d (w.setCell ⟨nb, 2, none⟩ (.int .i64 d)) := ⟨(heap_setCell_same w nb 2 _ _ _ h.row).trans rfl⟩

theorem assert_at (v : Value) (w : World) : (Instr.typeAssert (.iface 66 v) 25 57 true).run Tryd.prog w = .ok (.tuple #[.pointer none, .bool false]) w := by kernel_rfl

set_option maxRecDepth 100000 in
set_option maxHeartbeats 1000000 in
theorem fault_any (A : Nat → Addr) (j : Nat) (hj : j < 18) (w : World) (h : Sents A w) :
    Calls Tryd.prog 35 #[errI A j] w (Grew (faultV (101 + (j : Int)) false 0) w) := by
  obtain ⟨cd, hcd⟩ : ∃ cd : Int, cd = 101 + (j : Int) := ⟨_, rfl⟩
  have H := Lib.hid fun (w1 : World) (hb : Below w.heap.size w w1) => sentinel_any A j hj w1 (h.below hb)
  rw [← hcd] at H ⊢
  clear h hcd
  have hB := bare_any cd
  have HB := Lib.hid hB
  clear hB
  have ha := assert_at (.pointer (some (A j)))
  have hz : Below w.heap.size w (w.alloc (Obj.cells #[Value.int IntKind.i64 0, Value.bool false, Value.int IntKind.i64 0] 50)) := (Below.refl _ _).alloc (Nat.le_refl _) _
  have hr := RowAt.new 0 false 0 w
  unfold errI at *
  go_enter Tryd.func35, Tryd.ntmps35
  go_wp2_with fail
  refine (H.out _ hz).mono ?_
  rintro e w1 ⟨rfl, hb1⟩
  have hy := hz.trans (hb1.mono (by simp))
  replace hr := hr.below hb1
  clear hz hb1
  go_wp2_with fail
  refine (HB.out w1).mono ?_
  rintro e w2 ⟨rfl, hb2⟩
  replace hr := hr.below hb2
  have hx := hy.trans (hb2.mono hy.size)
  clear hy hb2
  have c0 := hr.c0
  have c1 := (hr.set0 cd).c1
  have c2 := ((hr.set0 cd).set1 false).c2
  have f0 := hr.frozen 0
  have f1 := (hr.set0 cd).frozen 1
  have f2 := ((hr.set0 cd).set1 false).frozen 2
  have hr3 := ((hr.set0 cd).set1 false).set2 0
  have HR := Lib.hid hr3.row
  have HX := Lib.hid (((hx.setCell (p := ⟨w.heap.size, 0, none⟩) (Nat.le_refl _) (.int .i64 cd)).setCell (p := ⟨w.heap.size, 1, none⟩) (Nat.le_refl _) (.bool false)).setCell (p := ⟨w.heap.size, 2, none⟩) (Nat.le_refl _) (.int .i64 0))
  clear hr hr3 hx
  unfold faultV
  go_wp2_with fail
  refine bodyPost_ret (results_cell_row rfl _ _ w.heap.size 50 _ (0, 0) _ rfl HR.out Tryd.underlying50 rfl (infoF cd false 0)) rfl ?_
  exact ⟨rfl, HX.out⟩

set_option maxRecDepth 100000 in
set_option maxHeartbeats 1000000 in
theorem same_any (A : Nat → Addr) (j : Nat) (hj : j < 18) (w : World) (h : Sents A w) :
    Calls Tryd.prog 28 #[errI A j, faultV (101 + (j : Int)) false 0] w (Grew (.bool true) w) := by
  obtain ⟨cd, hcd⟩ : ∃ cd : Int, cd = 101 + (j : Int) := ⟨_, rfl⟩
  have H := Lib.hid fun (w1 : World) (hb : Below w.heap.size w w1) => fault_any A j hj w1 (h.below hb)
  rw [← hcd] at H ⊢
  clear hcd
  have hS := samef_any cd false 0
  have HS := Lib.hid hS
  clear hS h
  have hz : Below w.heap.size w (w.alloc (Obj.cells #[Value.int IntKind.i64 cd, Value.bool false, Value.int IntKind.i64 0] 50)) := (Below.refl _ _).alloc (Nat.le_refl _) _
  have hr := RowAt.new cd false 0 w
  have HZ := Lib.hid hz.drew
  have HR : Hid (RowAt w.heap.size cd false 0 (w.alloc (Obj.cells #[Value.int IntKind.i64 cd, Value.bool false, Value.int IntKind.i64 0] 50)).drew) := Lib.hid ⟨hr.row⟩
  clear hz hr
  unfold errI at *
  unfold faultV at *
  go_enter Tryd.func28, Tryd.ntmps28
  go_wp2_with fail
  go_region_with (first
    | (go_at_call 35; refine (H.out _ HZ.out).mono ?_; rintro e w1 ⟨rfl, hb1⟩; have hq := HR.out.below hb1; have hc0 := hq.c0; have hc1 := hq.c1; have hc2 := hq.c2; have HY := Lib.hid (HZ.out.trans (hb1.mono HZ.out.size)); clear hq hb1)
    | (go_at_call 34; refine (HS.out _).mono ?_; rintro e w2 ⟨rfl, hb2⟩; have HB2 := Lib.hid hb2; clear hb2))
  all_goals
    go_wp2_with fail
    go_ret
    exact ⟨rfl, HY.out.trans (HB2.out.mono HY.out.size)⟩

set_option maxRecDepth 100000 in
set_option maxHeartbeats 1000000 in
/-- gristmillsee.Is, of one of api's errors, and its code. -/
theorem is_any (A : Nat → Addr) (j : Nat) (hj : j < 18) (c : Int) (hc : c = 101 + (j : Int)) (w : World) (h : Sents A w) :
    Calls Tryd.prog 16 #[errI A j, .int .i64 c] w (Grew (.bool true) w) := by
  have hB := bare_any c w
  have HB := Lib.hid hB
  have hS := fun w1 (hb : Below w.heap.size w w1) => same_any A j hj w1 (h.below hb)
  rw [← hc] at hS
  have HS := Lib.hid hS
  clear hS h hB hc
  unfold errI at *
  go_enter Tryd.func16, Tryd.ntmps16
  go_wp2_with fail
  refine HB.out.mono ?_
  rintro e w1 ⟨rfl, hb1⟩
  go_wp2_with fail
  refine (HS.out w1 hb1).mono ?_
  rintro e w2 ⟨rfl, hb2⟩
  go_wp2_with fail
  go_ret
  exact ⟨rfl, hb1.trans (hb2.mono hb1.size)⟩
end Go.Proofs.YtoobcaegnokdpaaDoor
