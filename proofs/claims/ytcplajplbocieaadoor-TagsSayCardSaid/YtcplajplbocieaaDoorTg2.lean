/- What compares two tags: its contract. Conditions: none. -/
import Derived.Test.YtcplajplbocieaaDoorTg1
import Derived.Deep.RegionHeld3
namespace Go.Proofs.YtcplajplbocieaaDoor
open Go.RowKit Go.Sort

theorem cell_third (w : World) (o1 o2 : Obj) (cs : Array Value) (t : TypeId) (j : Nat) (v : Value) (h : cs[j]? = some v) : (((w.alloc o1).alloc o2).alloc (.cells cs t)).drew.cell? ⟨w.heap.size + 1 + 1, j, none⟩ = some v := by
  show (((w.alloc o1).alloc o2).alloc (.cells cs t)).cell? ⟨w.heap.size + 1 + 1, j, none⟩ = some v
  have hr := heap_alloc_new ((w.alloc o1).alloc o2) (.cells cs t)
  have hs : ((w.alloc o1).alloc o2).heap.size = w.heap.size + 1 + 1 := by simp
  rw [hs] at hr
  rw [cell_of_row _ (w.heap.size + 1 + 1) j _ _ _ hr]
  exact h
set_option maxRecDepth 100000 in
set_option maxHeartbeats 8000000 in
theorem compare_any (x y : Tg) (W : World) : Calls Tryd.prog 27 #[.agg (encT x).toArray, .agg (encT y).toArray] W fun e w' => e = .returned (.int .i64 (cmpT x y)) ∧ ∃ q os', w' = grow (W.drewN q) os' := by
  obtain ⟨xk, xs, xn⟩ := x
  obtain ⟨yk, ys, yn⟩ := y
  have HI := Lib.hid Tryd.cmp_Compare_int
  have HS := Lib.hid Tryd.strings_Compare
  have HO := Lib.hid or3_any
  unfold cmpT
  simp only [encT]
  go_enter Tryd.func27, Tryd.ntmps27
  go_wp2_with fail
  go_region_held3 (fun w' => w'.cell? ⟨W.heap.size, 0, none⟩ = some (.int .i64 xk) ∧ w'.cell? ⟨W.heap.size, 1, none⟩ = some (.string xs) ∧ w'.cell? ⟨W.heap.size, 2, none⟩ = some (.int .i64 xn) ∧ w'.cell? ⟨W.heap.size + 1, 0, none⟩ = some (.int .i64 yk) ∧ w'.cell? ⟨W.heap.size + 1, 1, none⟩ = some (.string ys) ∧ w'.cell? ⟨W.heap.size + 1, 2, none⟩ = some (.int .i64 yn)) (first | go_keep | (simp [*]; done)) (first
    | (go_at_call 37; refine (HI.out _ _ _).mono ?_; rintro e w' ⟨rfl, rfl⟩)
    | (go_at_call 38; refine (HS.out _ _ _).mono ?_; rintro e w' ⟨rfl, rfl⟩)
    | (go_at_call 36; refine (HO.out _ _ _ _ _ (cell_third _ _ _ _ _ 0 _ rfl) (cell_third _ _ _ _ _ 1 _ rfl) (cell_third _ _ _ _ _ 2 _ rfl)).mono ?_; rintro e w' ⟨rfl, rfl⟩))
  go_wp2_with fail
  go_ret
  exact ⟨rfl, 1, #[.cells #[.int .i64 xk, .string xs, .int .i64 xn] 23, .cells #[.int .i64 yk, .string ys, .int .i64 yn] 23, .cells #[.int .i64 (Lib.compareInt xk yk), .int .i64 (Lib.compareBytes xs.data.toList ys.data.toList), .int .i64 (Lib.compareInt xn yn)] 3], by rw [alloc_eq_grow, alloc_eq_grow, alloc_eq_grow, grow_grow, grow_grow]; rfl⟩
end Go.Proofs.YtcplajplbocieaaDoor
