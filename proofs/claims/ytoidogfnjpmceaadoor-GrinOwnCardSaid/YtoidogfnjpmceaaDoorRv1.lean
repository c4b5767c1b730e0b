/- gristmillref.SameTag, SameVal, SameVals of the same plain data. No conditions. -/
import Derived.Test.YtoidogfnjpmceaaDoorStAt
import Derived.Deep.RegionHeld3
import Derived.Deep.DrawnRows
import Derived.Laws.StructEq
namespace Go.Proofs.YtoidogfnjpmceaaDoor
open Go.ChangeShapes Go.WideShapes Go.ChangeAt Go.RowKit
attribute [local go_sem ↓] Go.wp_at_zero Go.wp_at_succ

theorem two_rows_a (w : World) (o o' : Obj) (cs : Array Value) (ty i : Nat) (v : Value) (ho : o = .cells cs ty) (h : cs[i]? = some v) : ((w.alloc o).alloc o').cell? ⟨w.heap.size, i, none⟩ = some v := by
  rw [World.cell?_of_block (w := w.alloc o) (Below.heap_alloc _ o' _ (by simp))]
  subst ho
  rw [cell_of_row _ w.heap.size i _ _ _ (heap_alloc_new w _)]
  exact h
theorem two_rows_b (w : World) (o o' : Obj) (cs : Array Value) (ty i : Nat) (v : Value) (ho : o' = .cells cs ty) (h : cs[i]? = some v) : ((w.alloc o).alloc o').cell? ⟨w.heap.size + 1, i, none⟩ = some v := by
  subst ho
  have := heap_alloc_new (w.alloc o) (.cells cs ty)
  rw [show (w.alloc o).heap.size = w.heap.size + 1 by simp] at this
  rw [cell_of_row _ (w.heap.size + 1) i _ _ _ this]
  exact h

set_option maxRecDepth 100000 in
set_option maxHeartbeats 4000000 in
theorem refTag_of (k : Int) (s : ByteArray) (q : Int) (w : World) : Calls Tryd.prog 69 #[.agg #[.int .i64 k, .string s, .int .i64 q], .agg #[.int .i64 k, .string s, .int .i64 q]] w (Grew (.bool true) w) := by
  have a0 := two_rows_a w _ (.cells #[.int .i64 k, .string s, .int .i64 q] 25) #[.int .i64 k, .string s, .int .i64 q] 25 0 _ rfl rfl
  have a1 := two_rows_a w _ (.cells #[.int .i64 k, .string s, .int .i64 q] 25) #[.int .i64 k, .string s, .int .i64 q] 25 1 _ rfl rfl
  have a2 := two_rows_a w _ (.cells #[.int .i64 k, .string s, .int .i64 q] 25) #[.int .i64 k, .string s, .int .i64 q] 25 2 _ rfl rfl
  have b0 := two_rows_b w (.cells #[.int .i64 k, .string s, .int .i64 q] 25) _ #[.int .i64 k, .string s, .int .i64 q] 25 0 _ rfl rfl
  have b1 := two_rows_b w (.cells #[.int .i64 k, .string s, .int .i64 q] 25) _ #[.int .i64 k, .string s, .int .i64 q] 25 1 _ rfl rfl
  have b2 := two_rows_b w (.cells #[.int .i64 k, .string s, .int .i64 q] 25) _ #[.int .i64 k, .string s, .int .i64 q] 25 2 _ rfl rfl
  have hk : (k == k) = true := by simp
  have hs : (s == s) = true := by rw [beq_toListBytes]; simp
  have hq : (q == q) = true := by simp
  have HB : Hid (Below w.heap.size w ((w.alloc (.cells #[.int .i64 k, .string s, .int .i64 q] 25)).alloc (.cells #[.int .i64 k, .string s, .int .i64 q] 25))) := Lib.hid (((Below.refl _ w).alloc (Nat.le_refl _) _).alloc (by simp) _)
  go_enter Tryd.func69, Tryd.ntmps69
  go_wp2_with fail
  go_ret
  exact ⟨rfl, HB.out⟩

set_option maxRecDepth 100000 in
set_option maxHeartbeats 4000000 in
theorem refVal_of (k : Int) (s : ByteArray) (q : Int) (w : World) : Calls Tryd.prog 85 #[.agg #[.int .i64 k, .string s, .int .i64 q], .agg #[.int .i64 k, .string s, .int .i64 q]] w (Grew (.bool true) w) := by
  have a0 := two_rows_a w _ (.cells #[.int .i64 k, .string s, .int .i64 q] 36) #[.int .i64 k, .string s, .int .i64 q] 36 0 _ rfl rfl
  have a1 := two_rows_a w _ (.cells #[.int .i64 k, .string s, .int .i64 q] 36) #[.int .i64 k, .string s, .int .i64 q] 36 1 _ rfl rfl
  have a2 := two_rows_a w _ (.cells #[.int .i64 k, .string s, .int .i64 q] 36) #[.int .i64 k, .string s, .int .i64 q] 36 2 _ rfl rfl
  have b0 := two_rows_b w (.cells #[.int .i64 k, .string s, .int .i64 q] 36) _ #[.int .i64 k, .string s, .int .i64 q] 36 0 _ rfl rfl
  have b1 := two_rows_b w (.cells #[.int .i64 k, .string s, .int .i64 q] 36) _ #[.int .i64 k, .string s, .int .i64 q] 36 1 _ rfl rfl
  have b2 := two_rows_b w (.cells #[.int .i64 k, .string s, .int .i64 q] 36) _ #[.int .i64 k, .string s, .int .i64 q] 36 2 _ rfl rfl
  have hk : (k == k) = true := by simp
  have hs : (s == s) = true := by rw [beq_toListBytes]; simp
  have hq : (q == q) = true := by simp
  have HB : Hid (Below w.heap.size w ((w.alloc (.cells #[.int .i64 k, .string s, .int .i64 q] 36)).alloc (.cells #[.int .i64 k, .string s, .int .i64 q] 36))) := Lib.hid (((Below.refl _ w).alloc (Nat.le_refl _) _).alloc (by simp) _)
  go_enter Tryd.func85, Tryd.ntmps85
  go_wp2_with fail
  go_ret
  exact ⟨rfl, HB.out⟩

set_option maxRecDepth 100000 in
set_option maxHeartbeats 8000000 in
theorem refVals_of (l : List Vl) (v v' : Value) (w : World) (h : SlAt w v l.length fun b o => VlIn w l b o) (h' : SlAt w v' l.length fun b o => VlIn w l b o) : Calls Tryd.prog 70 #[v, v'] w (Grew (.bool true) w) := by
  obtain ⟨hn, ao, cap, rfl, -, hs⟩ := h
  obtain ⟨hn', ao', cap', rfl, -, hs'⟩ := h'
  obtain ⟨n, hnn⟩ : ∃ n, n = l.length := ⟨_, rfl⟩
  have HN := Lib.hid hnn
  have HV := Lib.hid hs
  have HV' := Lib.hid hs'
  rw [← hnn] at hn HV HV' ⊢
  have hx : (n : Int) ≤ 140737488355328 := by have : n ≤ 140737488355328 := hn; omega
  have HB := Lib.hid (Below.refl w.heap.size w)
  clear hs hs' hn hn' hnn
  have hnn : ((n : Int) != (n : Int)) = false := by simp
  go_enter Tryd.func70, Tryd.ntmps70
  go_wp2_with fail
  go_loopw [5] (fun vi wr => ∃ (i : Nat), vi = .int .i64 (i : Int) ∧ i ≤ n ∧ Hid (Below w.heap.size w wr)) (fun vi _ => n + 1 - (intOf vi).toNat)
  case atStart => exact ⟨0, rfl, by omega, HB⟩
  case round =>
    clear HB
    obtain ⟨i, rfl, hin, HB⟩ := hrel
    by_cases hii : (i : Int) < (n : Int)
    · have hi0 : (0 : Int) ≤ (i : Int) := by omega
      have hilt : i < l.length := by have := HN.out; omega
      obtain ⟨b, o, rfl, hbw, ht⟩ := HV.out (by omega)
      obtain ⟨b', o', rfl, hbw', ht'⟩ := HV'.out (by omega)
      obtain ⟨z0, z1, z2, -⟩ := ht i hilt
      obtain ⟨y0, y1, y2, -⟩ := ht' i hilt
      obtain ⟨k, s, q, he⟩ : ∃ k s q, l[i] = Vl.mk k s q := ⟨_, _, _, rfl⟩
      simp only [he] at z0 z1 z2 y0 y1 y2
      have f0 := (HB.out.cell (p := ⟨b, _, none⟩) hbw).trans z0
      have f1 := (HB.out.cell (p := ⟨b, _, none⟩) hbw).trans z1
      have f2 := (HB.out.cell (p := ⟨b, _, none⟩) hbw).trans z2
      have g0 := (HB.out.cell (p := ⟨b', _, none⟩) hbw').trans y0
      have g1 := (HB.out.cell (p := ⟨b', _, none⟩) hbw').trans y1
      have g2 := (HB.out.cell (p := ⟨b', _, none⟩) hbw').trans y2
      have hszA : b < wr.heap.size := Nat.lt_of_lt_of_le hbw HB.out.size
      have hszB : b' < wr.heap.size := Nat.lt_of_lt_of_le hbw' HB.out.size
      have HC : Hid (∀ w', Calls Tryd.prog 85 #[.agg #[.int .i64 k, .string s, .int .i64 q], .agg #[.int .i64 k, .string s, .int .i64 q]] w' (Grew (.bool true) w')) := Lib.hid fun w' => refVal_of k s q w'
      clear ht ht' z0 z1 z2 y0 y1 y2 he hilt
      go_wp2_with fail
      go_region_held3 (fun w' => w'.cell? ⟨b, o + i * 3, none⟩ = some (.int .i64 k) ∧ w'.cell? ⟨b, o + i * 3 + 1, none⟩ = some (.string s) ∧ w'.cell? ⟨b, o + i * 3 + 2, none⟩ = some (.int .i64 q) ∧ w'.cell? ⟨b', o' + i * 3, none⟩ = some (.int .i64 k) ∧ w'.cell? ⟨b', o' + i * 3 + 1, none⟩ = some (.string s) ∧ w'.cell? ⟨b', o' + i * 3 + 2, none⟩ = some (.int .i64 q)) (first | go_keep | (refine ⟨?_, ?_, ?_, ?_, ?_, ?_⟩ <;> (first | (rw [HB2.out.cell (p := ⟨b, _, none⟩) hszA]; assumption) | (rw [HB2.out.cell (p := ⟨b', _, none⟩) hszB]; assumption)))) (first | (go_at_call 85; refine (HC.out _).mono ?_; rintro e w2 ⟨rfl, hb2⟩; have HB2 : Hid (Below wr.heap.size wr w2) := Lib.hid ((Below.drew (Below.refl _ wr)).trans hb2); clear hb2))
      all_goals (
        go_wp2_with fail
        go_roundw
        case rel => exact ⟨i + 1, by go_num, by omega, Lib.hid (HB.out.trans (HB2.out.mono HB.out.size))⟩
        case measure => simp [intOf]; omega)
    · go_wp2_with fail
      go_ret
      exact ⟨rfl, HB.out⟩
end Go.Proofs.YtoidogfnjpmceaaDoor
