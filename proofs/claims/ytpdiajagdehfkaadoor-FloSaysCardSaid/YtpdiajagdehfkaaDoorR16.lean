/- gristmillsee.Is, of api's ErrNumber. Conditions: api's errors are eighteen errors, the last one other than those ahead of it. -/
import Derived.Test.YtpdiajagdehfkaaDoorR15
namespace Go.Proofs.YtpdiajagdehfkaaDoor
open Go.RowKit

/-- Api's errors, as they lie in memory: the last is other than those ahead of it. -/
structure Sents (A : Nat → Addr) (w : World) : Prop where
  cell : ∀ i, i < 18 → w.cell? ⟨errG i, 0, none⟩ = some (errI A i)
  block : ∀ i, i < 18 → ∃ c t, w.heap[(A i).block]? = some (.cells c t (0, 0))
  apart : ∀ i, i < 17 → A 17 ≠ A i

theorem Sents.below {A : Nat → Addr} {w w' : World} (h : Sents A w) (hb : Below w.heap.size w w') : Sents A w' :=
  ⟨fun i hi => by
    have hc := h.cell i hi
    have hlt : errG i < w.heap.size := by
      rcases Nat.lt_or_ge (errG i) w.heap.size with h' | h'
      · exact h'
      · simp [World.cell?, Array.getElem?_eq_none h'] at hc
    rw [hb.cell (p := ⟨errG i, 0, none⟩) hlt]; exact hc,
   fun i hi => by
    obtain ⟨c, t, e⟩ := h.block i hi
    have hlt : (A i).block < w.heap.size := by
      rcases Nat.lt_or_ge (A i).block w.heap.size with g | g
      · exact g
      · rw [Array.getElem?_eq_none g] at e; cases e
    exact ⟨c, t, (hb.block _ hlt).trans e⟩,
   h.apart⟩

theorem errA_get (A : Nat → Addr) (i : Nat) (hi : i < 18) : (errA A)[i]? = some (errI A i) := by
  unfold errA
  rcases i with _ | _ | _ | _ | _ | _ | _ | _ | _ | _ | _ | _ | _ | _ | _ | _ | _ | _ | _ <;> first | rfl | omega

set_option maxRecDepth 100000 in
set_option maxHeartbeats 4000000 in
theorem sentinel_any (A : Nat → Addr) (w : World) (h : Sents A w) :
    Calls Tryd.prog 65 #[errI A 17] w (Grew (.int .i64 118) w) := by
  have H := Lib.hid (sentinels_any A w h.cell)
  have HA := Lib.hid fun (w' : World) (hb : Below w.heap.size w w') (i : Nat) (hi : i < 18) => by
    have hs := h.below hb
    obtain ⟨c, t, e⟩ := hs.block 17 (by omega)
    obtain ⟨c', t', e'⟩ := hs.block i hi
    exact alike_any (A 17) (A i) w' e e'
  have HN := Lib.hid h.apart
  clear h
  unfold errI
  go_enter Tryd.func65, Tryd.ntmps65
  go_wp2_with fail
  refine H.out.mono ?_
  rintro e w1 ⟨rfl, rfl⟩
  have hcell : ∀ k, k < 18 → (w.alloc (Obj.cells (errA A) 31)).cell? ⟨w.heap.size, k, none⟩ = some (.iface 121 (.pointer (some (A k)))) := fun k hk => by
    rw [World.cell?_alloc_new]; exact errA_get A k hk
  have hbB : Below w.heap.size w (w.alloc (Obj.cells (errA A) 31)) := (Below.refl _ _).alloc (Nat.le_refl _) _
  have HC := Lib.hid hcell
  clear hcell
  obtain ⟨wB, hwB⟩ : ∃ wB, wB = w.alloc (Obj.cells (errA A) 31) := ⟨_, rfl⟩
  rw [← hwB] at HC hbB ⊢
  clear hwB
  obtain ⟨nb, hnb⟩ : ∃ nb, nb = w.heap.size := ⟨_, rfl⟩
  rw [← hnb] at HC ⊢
  clear hnb
  go_wp2_with fail
  go_loop [4] (fun vi => ∃ k : Nat, k ≤ 17 ∧ vi = .int .i64 k) (fun vi => 18 - (intOf vi).toNat)
  case atStart => exact ⟨0, by omega, rfl⟩
  case round =>
    obtain ⟨k, hk, rfl⟩ := hrel
    have hc := HC.out k (by omega)
    by_cases hk17 : k < 17
    · have hne := decide_eq_false (HN.out k hk17)
      go_wp2_with fail
      refine (HA.out _ hbB k (by omega)).mono ?_
      rintro e w2 ⟨rfl, rfl⟩
      rw [hne]
      go_wp2_with fail
      go_round
      case rel => exact ⟨k + 1, by omega, by go_num⟩
      case measure => simp [intOf]; omega
    · obtain rfl : k = 17 := by omega
      go_wp2_with fail
      refine (HA.out _ hbB 17 (by omega)).mono ?_
      rintro e w2 ⟨rfl, rfl⟩
      rw [show decide (A 17 = A 17) = true from decide_eq_true rfl]
      go_wp2_with fail
      go_ret
      exact ⟨rfl, hbB⟩

/-- A fault's row of cells, as a walk reads and writes it. -/
structure RowAt (nb : Nat) (c : Int) (w : World) : Prop where
  row : w.heap[nb]? = some (.cells #[.int .i64 c, .bool false, .int .i64 0] 58 (0, 0))
theorem RowAt.c0 {nb : Nat} {c : Int} {w : World} (h : RowAt nb c w) : w.cell? ⟨nb, 0, none⟩ = some (.int .i64 c) := (cell_of_row w nb 0 _ _ _ h.row).trans rfl
theorem RowAt.c1 {nb : Nat} {c : Int} {w : World} (h : RowAt nb c w) : w.cell? ⟨nb, 1, none⟩ = some (.bool false) := (cell_of_row w nb 1 _ _ _ h.row).trans rfl
theorem RowAt.c2 {nb : Nat} {c : Int} {w : World} (h : RowAt nb c w) : w.cell? ⟨nb, 2, none⟩ = some (.int .i64 0) := (cell_of_row w nb 2 _ _ _ h.row).trans rfl
theorem RowAt.frozen {nb : Nat} {c : Int} {w : World} (h : RowAt nb c w) (j : Nat) : w.frozen? ⟨nb, j, none⟩ = false := frozen_of_row w nb j _ _ h.row
theorem RowAt.new (c : Int) (w : World) : RowAt w.heap.size c (w.alloc (Obj.cells #[.int .i64 c, .bool false, .int .i64 0] 58)) := ⟨heap_alloc_new w _⟩
theorem RowAt.below {nb : Nat} {c : Int} {w w' : World} (h : RowAt nb c w) (hb : Below w.heap.size w w') : RowAt nb c w' := by
  have hlt : nb < w.heap.size := by
    rcases Nat.lt_or_ge nb w.heap.size with g | g
    · exact g
    · have := h.row
      rw [Array.getElem?_eq_none g] at this; cases this
  exact ⟨(hb.block _ hlt).trans h.row⟩
theorem RowAt.set0 {nb : Nat} {c : Int} {w : World} (h : RowAt nb c w) (d : Int) : RowAt nb d (w.setCell ⟨nb, 0, none⟩ (.int .i64 d)) := ⟨(heap_setCell_same w nb 0 _ _ _ h.row).trans rfl⟩
theorem RowAt.set1 {nb : Nat} {c : Int} {w : World} (h : RowAt nb c w) : RowAt nb c (w.setCell ⟨nb, 1, none⟩ (.bool false)) := ⟨(heap_setCell_same w nb 1 _ _ _ h.row).trans rfl⟩
theorem RowAt.set2 {nb : Nat} {c : Int} {w : World} (h : RowAt nb c w) : RowAt nb c (w.setCell ⟨nb, 2, none⟩ (.int .i64 0)) := ⟨(heap_setCell_same w nb 2 _ _ _ h.row).trans rfl⟩

theorem assert_at (v : Value) (w : World) : (Instr.typeAssert (.iface 121 v) 31 80 true).run Tryd.prog w = .ok (.tuple #[.pointer none, .bool false]) w := by kernel_rfl

set_option maxRecDepth 100000 in
set_option maxHeartbeats 1000000 in
theorem fault_any (A : Nat → Addr) (w : World) (h : Sents A w) :
    Calls Tryd.prog 50 #[errI A 17] w (Grew (bareV 118) w) := by
  have H := Lib.hid fun (w1 : World) (hb : Below w.heap.size w w1) => sentinel_any A w1 (h.below hb)
  clear h
  have hB := bare_any 118
  have HB := Lib.hid hB
  clear hB
  have ha := assert_at (.pointer (some (A 17)))
  have hz : Below w.heap.size w (w.alloc (Obj.cells #[Value.int IntKind.i64 0, Value.bool false, Value.int IntKind.i64 0] 58)) := (Below.refl _ _).alloc (Nat.le_refl _) _
  have hr := RowAt.new 0 w
  unfold errI at *
  go_enter Tryd.func50, Tryd.ntmps50
  go_wp2_with fail
  refine (H.out _ hz).mono ?_
  rintro e w1 ⟨rfl, hb1⟩
  have hy := hz.trans (hb1.mono (by simp))
  replace hr := hr.below hb1
  clear hz hb1
  go_wp2_with fail
  refine (HB.out w1).mono ?_
  rintro e w2 ⟨rfl, hb2⟩
  replace hr := hr.below hb2
  have hx := hy.trans (hb2.mono hy.size)
  clear hy hb2
  have c0 := hr.c0
  have c1 := (hr.set0 118).c1
  have c2 := (hr.set0 118).set1.c2
  have f0 := hr.frozen 0
  have f1 := (hr.set0 118).frozen 1
  have f2 := (hr.set0 118).set1.frozen 2
  have hr3 := (hr.set0 118).set1.set2
  have HR := Lib.hid hr3.row
  have HX := Lib.hid (((hx.setCell (p := ⟨w.heap.size, 0, none⟩) (Nat.le_refl _) (.int .i64 118)).setCell (p := ⟨w.heap.size, 1, none⟩) (Nat.le_refl _) (.bool false)).setCell (p := ⟨w.heap.size, 2, none⟩) (Nat.le_refl _) (.int .i64 0))
  clear hr hr3 hx
  unfold bareV
  go_wp2_with fail
  refine bodyPost_ret (results_cell_row rfl _ _ w.heap.size 58 _ (0, 0) _ rfl HR.out Tryd.underlying58 rfl (info58 118)) rfl ?_
  exact ⟨rfl, HX.out⟩

set_option maxRecDepth 100000 in
set_option maxHeartbeats 1000000 in
theorem same_any (A : Nat → Addr) (w : World) (h : Sents A w) :
    Calls Tryd.prog 34 #[errI A 17, bareV 118] w (Grew (.bool true) w) := by
  have H := Lib.hid fun (w1 : World) (hb : Below w.heap.size w w1) => fault_any A w1 (h.below hb)
  have hS := samef_any 118
  have HS := Lib.hid hS
  clear hS h
  have hz : Below w.heap.size w (w.alloc (Obj.cells #[Value.int IntKind.i64 118, Value.bool false, Value.int IntKind.i64 0] 58)) := (Below.refl _ _).alloc (Nat.le_refl _) _
  have hr := RowAt.new 118 w
  have HZ := Lib.hid hz.drew
  have HR : Hid (RowAt w.heap.size 118 (w.alloc (Obj.cells #[Value.int IntKind.i64 118, Value.bool false, Value.int IntKind.i64 0] 58)).drew) := Lib.hid ⟨hr.row⟩
  clear hz hr
  unfold errI at *
  unfold bareV at *
  go_enter Tryd.func34, Tryd.ntmps34
  go_wp2_with fail
  go_region_with (first
    | (go_at_call 50; refine (H.out _ HZ.out).mono ?_; rintro e w1 ⟨rfl, hb1⟩; have hq := HR.out.below hb1; have hc0 := hq.c0; have hc1 := hq.c1; have hc2 := hq.c2; have HY := Lib.hid (HZ.out.trans (hb1.mono HZ.out.size)); clear hq hb1)
    | (go_at_call 49; refine (HS.out _).mono ?_; rintro e w2 ⟨rfl, hb2⟩; have HB2 := Lib.hid hb2; clear hb2))
  all_goals
    go_wp2_with fail
    go_ret
    exact ⟨rfl, HY.out.trans (HB2.out.mono HY.out.size)⟩

set_option maxRecDepth 100000 in
set_option maxHeartbeats 1000000 in
/-- gristmillsee.Is, of api's ErrNumber. -/
theorem is_any (A : Nat → Addr) (w : World) (h : Sents A w) :
    Calls Tryd.prog 19 #[errI A 17, .int .i64 118] w (Grew (.bool true) w) := by
  have hB := bare_any 118 w
  have HB := Lib.hid hB
  have hS := fun w1 (hb : Below w.heap.size w w1) => same_any A w1 (h.below hb)
  have HS := Lib.hid hS
  clear hS h hB
  unfold errI at *
  go_enter Tryd.func19, Tryd.ntmps19
  go_wp2_with fail
  refine HB.out.mono ?_
  rintro e w1 ⟨rfl, hb1⟩
  go_wp2_with fail
  refine (HS.out w1 hb1).mono ?_
  rintro e w2 ⟨rfl, hb2⟩
  go_wp2_with fail
  go_ret
  exact ⟨rfl, hb1.trans (hb2.mono hb1.size)⟩

end Go.Proofs.YtpdiajagdehfkaaDoor
