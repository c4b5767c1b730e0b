/- grin.cloneBranch, cloneStep. Conditions: lengths. -/
import Derived.Test.YtoidogfnjpmceaaDoorGc2
import Derived.Test.YtoidogfnjpmceaaDoorGw
import Derived.Deep.RegionHeld3
import Derived.Deep.DrawnRows
namespace Go.Proofs.YtoidogfnjpmceaaDoor
open Go.ChangeShapes Go.WideShapes Go.ChangeAt Go.RowKit
attribute [local go_sem ↓] Go.wp_at_zero Go.wp_at_succ

theorem rowO_app {w4 : World} {base E k n : Nat} {v : Value} {xs : List Value} {P : List Value → List Nat → Prop} (hA : w4.ownsRow base E k v n xs) (hz : v = .slice none 0 0 ↔ n = 0) (hn : n ≤ reach) (hP : P xs []) :
    ∃ F a m c, v = .slice a m c ∧ RowO E k w4 (.slice a m c) n F P ∧ (∀ b ∈ F, base ≤ b ∧ b < w4.heap.size) ∧ F.Nodup := by
  rcases Nat.eq_zero_or_pos n with h0 | h0
  · exact ⟨[], none, 0, 0, hz.2 h0, .inl ⟨h0, rfl, rfl⟩, by simp, by simp⟩
  · have hno := hA
    rcases hA.2 with ⟨e1, -⟩ | ⟨g, cap', cur, rfl, hg, hgg, _⟩
    · have := hz.1 e1; omega
    · exact ⟨[g], some ⟨g, 0, none⟩, n, cap', rfl, .inr ⟨h0, hn, g, cap', _, [], rfl, owns_zero hno, hP, rfl⟩, by simp; exact ⟨hg, (Array.getElem?_eq_some_iff.1 hgg).1⟩, by simp⟩
set_option maxRecDepth 100000 in
set_option maxHeartbeats 8000000 in
theorem cloneBranch_any (m : Nat) (hm : m ≤ 1000000) (HE : ∀ op to nm t vals alts num, (St.step op to nm t vals alts num .nil).cost ≤ m → ∀ (v : Value) (w : World), StV w (.step op to nm t vals alts num .nil) v → Calls Tryd.prog 65 #[v] w (MadeC w (StQ op to nm t vals alts num))) :
    ∀ take t num steps, (St.br take t num steps .nil).cost ≤ m → ∀ (v : Value) (w : World), BrV w (.br take t num steps .nil) v → Calls Tryd.prog 81 #[v] w (MadeC w (BrQ take t num steps)) := by
  intro take t num steps hcost v w hv
  obtain ⟨_, _, _, _, a1, n1, c1, he, rfl, k1, k2, k3, k4, k5, hwf, hs⟩ := hv
  injection he with q1 q2 q3 q4
  subst q1 q2 q3 q4
  have HI := Lib.hid HE
  have HS := Lib.hid hs
  have HW := Lib.hid (show wf64 take ∧ wf64 t.k ∧ t.s.size ≤ reach ∧ wf64 t.n ∧ wf64 num ∧ steps.wf true from ⟨k1, k2, k3, k4, k5, hwf⟩)
  have hcst : steps.cost ≤ m := by simp only [St.cost] at hcost; omega
  have hln : steps.len ≤ 1000000 := by have := St.len_cost hwf; omega
  have HCX : Hid (∀ w', Below w.heap.size w w' → Calls Tryd.prog 64 #[.slice a1 n1 c1, .func (.func 65) #[] #[]] w' (MadeC w' fun q v' F => RowO 29 9 q v' steps.len F (fun xs F => StO q steps xs F))) := Lib.hid fun w' hb => cloneAllSt_any m HI.out steps hcst HW.out.2.2.2.2.2 hln _ w' (HS.out.mono hb.size fun _ _ p q => StIn.below hb p q)
  clear HE hs hcost k1 k2 k3 k4 k5 hcst hwf hln
  have HB0 : Hid (Below w.heap.size w ((w.alloc (.cells #[.int .i64 take, .int .i64 t.k, .string t.s, .int .i64 t.n, .int .i64 num, .slice a1 n1 c1] 63)).alloc (.cells #[.int .i64 0, .int .i64 0, .string ⟨#[]⟩, .int .i64 0, .int .i64 0, .slice none 0 0] 63))) := Lib.hid (((Below.refl _ w).alloc (Nat.le_refl _) _).alloc (by simp) _)
  have hsz : w.heap.size + 1 < ((w.alloc (.cells #[.int .i64 take, .int .i64 t.k, .string t.s, .int .i64 t.n, .int .i64 num, .slice a1 n1 c1] 63)).alloc (.cells #[.int .i64 0, .int .i64 0, .string ⟨#[]⟩, .int .i64 0, .int .i64 0, .slice none 0 0] 63)).heap.size := by simp <;> omega
  have HSZ := Lib.hid hsz
  have RA : Hid (((w.alloc (.cells #[.int .i64 take, .int .i64 t.k, .string t.s, .int .i64 t.n, .int .i64 num, .slice a1 n1 c1] 63)).alloc (.cells #[.int .i64 0, .int .i64 0, .string ⟨#[]⟩, .int .i64 0, .int .i64 0, .slice none 0 0] 63)).heap[w.heap.size]? = some (.cells #[.int .i64 take, .int .i64 t.k, .string t.s, .int .i64 t.n, .int .i64 num, .slice a1 n1 c1] 63)) := Lib.hid ((Below.heap_alloc (w.alloc (.cells #[.int .i64 take, .int .i64 t.k, .string t.s, .int .i64 t.n, .int .i64 num, .slice a1 n1 c1] 63)) _ w.heap.size (by simp)).trans (heap_alloc_new w _))
  have RZ : Hid (((w.alloc (.cells #[.int .i64 take, .int .i64 t.k, .string t.s, .int .i64 t.n, .int .i64 num, .slice a1 n1 c1] 63)).alloc (.cells #[.int .i64 0, .int .i64 0, .string ⟨#[]⟩, .int .i64 0, .int .i64 0, .slice none 0 0] 63)).heap[w.heap.size + 1]? = some (.cells #[.int .i64 0, .int .i64 0, .string ⟨#[]⟩, .int .i64 0, .int .i64 0, .slice none 0 0] 63)) := Lib.hid (by have := heap_alloc_new (w.alloc (.cells #[.int .i64 take, .int .i64 t.k, .string t.s, .int .i64 t.n, .int .i64 num, .slice a1 n1 c1] 63)) (.cells #[.int .i64 0, .int .i64 0, .string ⟨#[]⟩, .int .i64 0, .int .i64 0, .slice none 0 0] 63); rw [show (w.alloc (.cells #[.int .i64 take, .int .i64 t.k, .string t.s, .int .i64 t.n, .int .i64 num, .slice a1 n1 c1] 63)).heap.size = w.heap.size + 1 by simp] at this; exact this)
  have FA : Hid (∀ j, ((w.alloc (.cells #[.int .i64 take, .int .i64 t.k, .string t.s, .int .i64 t.n, .int .i64 num, .slice a1 n1 c1] 63)).alloc (.cells #[.int .i64 0, .int .i64 0, .string ⟨#[]⟩, .int .i64 0, .int .i64 0, .slice none 0 0] 63)).frozen? ⟨w.heap.size, j, none⟩ = false) := Lib.hid fun j => by
    rw [((Below.refl _ (w.alloc (.cells #[.int .i64 take, .int .i64 t.k, .string t.s, .int .i64 t.n, .int .i64 num, .slice a1 n1 c1] 63))).alloc (Nat.le_refl _) (.cells #[.int .i64 0, .int .i64 0, .string ⟨#[]⟩, .int .i64 0, .int .i64 0, .slice none 0 0] 63)).frozen (p := ⟨w.heap.size, j, none⟩) (by simp)]
    exact World.frozen?_alloc_new _ _ _ _
  have FZ : Hid (∀ j, ((w.alloc (.cells #[.int .i64 take, .int .i64 t.k, .string t.s, .int .i64 t.n, .int .i64 num, .slice a1 n1 c1] 63)).alloc (.cells #[.int .i64 0, .int .i64 0, .string ⟨#[]⟩, .int .i64 0, .int .i64 0, .slice none 0 0] 63)).frozen? ⟨w.heap.size + 1, j, none⟩ = false) := Lib.hid fun j => World.frozen?_alloc2_new _ _ _ _
  have A0 : ((w.alloc (.cells #[.int .i64 take, .int .i64 t.k, .string t.s, .int .i64 t.n, .int .i64 num, .slice a1 n1 c1] 63)).alloc (.cells #[.int .i64 0, .int .i64 0, .string ⟨#[]⟩, .int .i64 0, .int .i64 0, .slice none 0 0] 63)).cell? ⟨w.heap.size, 0, none⟩ = some (.int .i64 take) := (cell_of_row _ w.heap.size 0 _ _ _ RA.out).trans rfl
  have A1 : ((w.alloc (.cells #[.int .i64 take, .int .i64 t.k, .string t.s, .int .i64 t.n, .int .i64 num, .slice a1 n1 c1] 63)).alloc (.cells #[.int .i64 0, .int .i64 0, .string ⟨#[]⟩, .int .i64 0, .int .i64 0, .slice none 0 0] 63)).cell? ⟨w.heap.size, 1, none⟩ = some (.int .i64 t.k) := (cell_of_row _ w.heap.size 1 _ _ _ RA.out).trans rfl
  have A2 : ((w.alloc (.cells #[.int .i64 take, .int .i64 t.k, .string t.s, .int .i64 t.n, .int .i64 num, .slice a1 n1 c1] 63)).alloc (.cells #[.int .i64 0, .int .i64 0, .string ⟨#[]⟩, .int .i64 0, .int .i64 0, .slice none 0 0] 63)).cell? ⟨w.heap.size, 2, none⟩ = some (.string t.s) := (cell_of_row _ w.heap.size 2 _ _ _ RA.out).trans rfl
  have A3 : ((w.alloc (.cells #[.int .i64 take, .int .i64 t.k, .string t.s, .int .i64 t.n, .int .i64 num, .slice a1 n1 c1] 63)).alloc (.cells #[.int .i64 0, .int .i64 0, .string ⟨#[]⟩, .int .i64 0, .int .i64 0, .slice none 0 0] 63)).cell? ⟨w.heap.size, 3, none⟩ = some (.int .i64 t.n) := (cell_of_row _ w.heap.size 3 _ _ _ RA.out).trans rfl
  have A4 : ((w.alloc (.cells #[.int .i64 take, .int .i64 t.k, .string t.s, .int .i64 t.n, .int .i64 num, .slice a1 n1 c1] 63)).alloc (.cells #[.int .i64 0, .int .i64 0, .string ⟨#[]⟩, .int .i64 0, .int .i64 0, .slice none 0 0] 63)).cell? ⟨w.heap.size, 4, none⟩ = some (.int .i64 num) := (cell_of_row _ w.heap.size 4 _ _ _ RA.out).trans rfl
  have A5 : ((w.alloc (.cells #[.int .i64 take, .int .i64 t.k, .string t.s, .int .i64 t.n, .int .i64 num, .slice a1 n1 c1] 63)).alloc (.cells #[.int .i64 0, .int .i64 0, .string ⟨#[]⟩, .int .i64 0, .int .i64 0, .slice none 0 0] 63)).cell? ⟨w.heap.size, 5, none⟩ = some (.slice a1 n1 c1) := (cell_of_row _ w.heap.size 5 _ _ _ RA.out).trans rfl
  go_enter Tryd.func81, Tryd.ntmps81
  go_wp2_with fail
  refine (HCX.out _ HB0.out).mono ?_
  rintro e u2 ⟨vz, Fz, rfl, hQz, hbz, hfz, hnz⟩
  obtain ⟨mz, az, cz, rfl, hQz⟩ := row_open hQz
  have RA5 : u2.heap[w.heap.size]? = some (.cells #[.int .i64 take, .int .i64 t.k, .string t.s, .int .i64 t.n, .int .i64 num, .slice a1 n1 c1] 63) := (hbz.block _ (by have := HSZ.out; omega)).trans RA.out
  have RZ5 : u2.heap[w.heap.size + 1]? = some (.cells #[.int .i64 0, .int .i64 0, .string ⟨#[]⟩, .int .i64 0, .int .i64 0, .slice none 0 0] 63) := (hbz.block _ HSZ.out).trans RZ.out
  have FA5 : ∀ j, u2.frozen? ⟨w.heap.size, j, none⟩ = false := fun j => (hbz.frozen (p := ⟨w.heap.size, j, none⟩) (by show w.heap.size < _; have := HSZ.out; omega)).trans (FA.out j)
  have FZ5 : ∀ j, u2.frozen? ⟨w.heap.size + 1, j, none⟩ = false := fun j => (hbz.frozen (p := ⟨w.heap.size + 1, j, none⟩) HSZ.out).trans (FZ.out j)
  have HSS : Hid (((w.alloc (.cells #[.int .i64 take, .int .i64 t.k, .string t.s, .int .i64 t.n, .int .i64 num, .slice a1 n1 c1] 63)).alloc (.cells #[.int .i64 0, .int .i64 0, .string ⟨#[]⟩, .int .i64 0, .int .i64 0, .slice none 0 0] 63)).heap.size ≤ u2.heap.size) := Lib.hid hbz.size
  clear hsz
  clear A0 A1 A2 A3 A4 A5
  have A0 : u2.cell? ⟨w.heap.size, 0, none⟩ = some (.int .i64 take) := (cell_of_row _ w.heap.size 0 _ _ _ RA5).trans rfl
  have A1 : u2.cell? ⟨w.heap.size, 1, none⟩ = some (.int .i64 t.k) := (cell_of_row _ w.heap.size 1 _ _ _ RA5).trans rfl
  have A2 : u2.cell? ⟨w.heap.size, 2, none⟩ = some (.string t.s) := (cell_of_row _ w.heap.size 2 _ _ _ RA5).trans rfl
  have A3 : u2.cell? ⟨w.heap.size, 3, none⟩ = some (.int .i64 t.n) := (cell_of_row _ w.heap.size 3 _ _ _ RA5).trans rfl
  have A4 : u2.cell? ⟨w.heap.size, 4, none⟩ = some (.int .i64 num) := (cell_of_row _ w.heap.size 4 _ _ _ RA5).trans rfl
  have A5 : u2.cell? ⟨w.heap.size, 5, none⟩ = some (.slice a1 n1 c1) := (cell_of_row _ w.heap.size 5 _ _ _ RA5).trans rfl
  have AF := FA5 5
  have Z0 : u2.cell? ⟨w.heap.size + 1, 0, none⟩ = some (.int .i64 0) := (cell_of_row _ (w.heap.size + 1) 0 _ _ _ RZ5).trans rfl
  have ZF0 := FZ5 0
  have Z1 : u2.cell? ⟨w.heap.size + 1, 1, none⟩ = some (.int .i64 0) := (cell_of_row _ (w.heap.size + 1) 1 _ _ _ RZ5).trans rfl
  have ZF1 := FZ5 1
  have Z2 : u2.cell? ⟨w.heap.size + 1, 2, none⟩ = some (.string ⟨#[]⟩) := (cell_of_row _ (w.heap.size + 1) 2 _ _ _ RZ5).trans rfl
  have ZF2 := FZ5 2
  have Z3 : u2.cell? ⟨w.heap.size + 1, 3, none⟩ = some (.int .i64 0) := (cell_of_row _ (w.heap.size + 1) 3 _ _ _ RZ5).trans rfl
  have ZF3 := FZ5 3
  have Z4 : u2.cell? ⟨w.heap.size + 1, 4, none⟩ = some (.int .i64 0) := (cell_of_row _ (w.heap.size + 1) 4 _ _ _ RZ5).trans rfl
  have ZF4 := FZ5 4
  have Z5 : u2.cell? ⟨w.heap.size + 1, 5, none⟩ = some (.slice none 0 0) := (cell_of_row _ (w.heap.size + 1) 5 _ _ _ RZ5).trans rfl
  have ZF5 := FZ5 5
  have RZ5 := Lib.hid RZ5
  have HBU : Hid (Below w.heap.size w u2) := Lib.hid (HB0.out.trans (hbz.mono HB0.out.size))
  have HQZ := Lib.hid hQz
  have HBZ := Lib.hid hbz
  have HFZ := Lib.hid hfz
  have HNZ := Lib.hid hnz
  clear RA5 FA5 FZ5 hQz hbz hfz hnz 
  go_wp2_with fail
  have hr0 : (u2.setCell ⟨w.heap.size, 5, none⟩ (.slice az mz cz)).heap[w.heap.size + 1]? = some (.cells #[.int .i64 0, .int .i64 0, .string ⟨#[]⟩, .int .i64 0, .int .i64 0, .slice none 0 0] 63) := (Below.heap_setCell _ _ _ _ (by show w.heap.size + 1 ≠ w.heap.size; omega)).trans RZ5.out
  have hr1 : (World.heap _)[w.heap.size + 1]? = some (.cells #[.int .i64 take, .int .i64 0, .string ⟨#[]⟩, .int .i64 0, .int .i64 0, .slice none 0 0] 63 (0, 0)) := row_set (.int .i64 take) hr0 (i := 0)
  clear hr0
  have hr2 : (World.heap _)[w.heap.size + 1]? = some (.cells #[.int .i64 take, .int .i64 t.k, .string ⟨#[]⟩, .int .i64 0, .int .i64 0, .slice none 0 0] 63 (0, 0)) := row_set (.int .i64 t.k) hr1 (i := 1)
  clear hr1
  have hr3 : (World.heap _)[w.heap.size + 1]? = some (.cells #[.int .i64 take, .int .i64 t.k, .string t.s, .int .i64 0, .int .i64 0, .slice none 0 0] 63 (0, 0)) := row_set (.string t.s) hr2 (i := 2)
  clear hr2
  have hr4 : (World.heap _)[w.heap.size + 1]? = some (.cells #[.int .i64 take, .int .i64 t.k, .string t.s, .int .i64 t.n, .int .i64 0, .slice none 0 0] 63 (0, 0)) := row_set (.int .i64 t.n) hr3 (i := 3)
  clear hr3
  have hr5 : (World.heap _)[w.heap.size + 1]? = some (.cells #[.int .i64 take, .int .i64 t.k, .string t.s, .int .i64 t.n, .int .i64 num, .slice none 0 0] 63 (0, 0)) := row_set (.int .i64 num) hr4 (i := 4)
  clear hr4
  have hr6 : (World.heap _)[w.heap.size + 1]? = some (.cells #[.int .i64 take, .int .i64 t.k, .string t.s, .int .i64 t.n, .int .i64 num, .slice az mz cz] 63 (0, 0)) := row_set (.slice az mz cz) hr5 (i := 5)
  clear hr5
  have hrow := hr6
  refine bodyPost_ret (results_row1 rfl _ _ (w.heap.size + 1) 63 _ (0, 0) _ rfl hrow Tryd.underlying63 rfl (sizeBr _ _ _ _ _ _)) rfl ?_
  have hsF : (((((((u2.setCell ⟨w.heap.size, 5, none⟩ (.slice az mz cz)).setCell ⟨w.heap.size + 1, 0, none⟩ (.int .i64 take)).setCell ⟨w.heap.size + 1, 1, none⟩ (.int .i64 t.k)).setCell ⟨w.heap.size + 1, 2, none⟩ (.string t.s)).setCell ⟨w.heap.size + 1, 3, none⟩ (.int .i64 t.n)).setCell ⟨w.heap.size + 1, 4, none⟩ (.int .i64 num)).setCell ⟨w.heap.size + 1, 5, none⟩ (.slice az mz cz)).heap.size = u2.heap.size := by simp only [set_size]
  have hfar : ∀ b, w.heap.size + 2 ≤ b → (((((((u2.setCell ⟨w.heap.size, 5, none⟩ (.slice az mz cz)).setCell ⟨w.heap.size + 1, 0, none⟩ (.int .i64 take)).setCell ⟨w.heap.size + 1, 1, none⟩ (.int .i64 t.k)).setCell ⟨w.heap.size + 1, 2, none⟩ (.string t.s)).setCell ⟨w.heap.size + 1, 3, none⟩ (.int .i64 t.n)).setCell ⟨w.heap.size + 1, 4, none⟩ (.int .i64 num)).setCell ⟨w.heap.size + 1, 5, none⟩ (.slice az mz cz)).heap[b]? = u2.heap[b]? := fun b hb => by
    refine (Below.heap_setCell _ _ _ _ (by simp; omega)).trans ?_
    refine (Below.heap_setCell _ _ _ _ (by simp; omega)).trans ?_
    refine (Below.heap_setCell _ _ _ _ (by simp; omega)).trans ?_
    refine (Below.heap_setCell _ _ _ _ (by simp; omega)).trans ?_
    refine (Below.heap_setCell _ _ _ _ (by simp; omega)).trans ?_
    refine (Below.heap_setCell _ _ _ _ (by simp; omega)).trans ?_
    refine (Below.heap_setCell _ _ _ _ (by simp; omega)).trans ?_
    rfl
  have hs1 := HSZ.out
  have hs3 := HSS.out
  have hfz := HFZ.out
  have KF2 : KeepF u2 (((((((u2.setCell ⟨w.heap.size, 5, none⟩ (.slice az mz cz)).setCell ⟨w.heap.size + 1, 0, none⟩ (.int .i64 take)).setCell ⟨w.heap.size + 1, 1, none⟩ (.int .i64 t.k)).setCell ⟨w.heap.size + 1, 2, none⟩ (.string t.s)).setCell ⟨w.heap.size + 1, 3, none⟩ (.int .i64 t.n)).setCell ⟨w.heap.size + 1, 4, none⟩ (.int .i64 num)).setCell ⟨w.heap.size + 1, 5, none⟩ (.slice az mz cz)) Fz := ⟨by rw [hsF]; exact Nat.le_refl _, fun b hb => hfar b (by have := hfz b hb; omega)⟩
  exact madeC_mk (F := Fz) rfl (⟨_, _, _, rfl, ⟨_, [], Fz, [], rfl, by simp, HW.out.1, HW.out.2.1, HW.out.2.2.1, HW.out.2.2.2.1, HW.out.2.2.2.2.1, HW.out.2.2.2.2.2, HQZ.out.keep KF2 fun _ _ hs hp => StO.keep hp (KF2.sub hs), rfl, rfl⟩⟩) (((((((HBU.out.setCell (p := ⟨w.heap.size, 5, none⟩) (Nat.le_refl _) (.slice az mz cz)).setCell (p := ⟨w.heap.size + 1, 0, none⟩) (by simp) (.int .i64 take)).setCell (p := ⟨w.heap.size + 1, 1, none⟩) (by simp) (.int .i64 t.k)).setCell (p := ⟨w.heap.size + 1, 2, none⟩) (by simp) (.string t.s)).setCell (p := ⟨w.heap.size + 1, 3, none⟩) (by simp) (.int .i64 t.n)).setCell (p := ⟨w.heap.size + 1, 4, none⟩) (by simp) (.int .i64 num)).setCell (p := ⟨w.heap.size + 1, 5, none⟩) (by simp) (.slice az mz cz)) (fun b h => by have := hfz b h; rw [hsF]; omega) HNZ.out
set_option maxRecDepth 100000 in
set_option maxHeartbeats 8000000 in
theorem cloneStep_any (m : Nat) (hm : m ≤ 1000000) : ∀ op to nm t vals alts num, (St.step op to nm t vals alts num .nil).cost ≤ m → ∀ (v : Value) (w : World), StV w (.step op to nm t vals alts num .nil) v → Calls Tryd.prog 65 #[v] w (MadeC w (StQ op to nm t vals alts num)) := by
  induction m with
  | zero => intro op to nm t vals alts num h; simp only [St.cost] at h; omega
  | succ m IH =>
    intro op to nm t vals alts num hcost v w hv
    obtain ⟨_, _, _, _, _, _, _, a1, n1, c1, a2, n2, c2, he, rfl, k1, k2, k3, k4, k5, k6, k7, hwf, hs, hs2⟩ := hv
    injection he with q1 q2 q3 q4 q5 q6 q7
    subst q1 q2 q3 q4 q5 q6 q7
    have HI := Lib.hid (IH (by omega))
    have HS := Lib.hid hs
    have HS2 := Lib.hid hs2
    have HW := Lib.hid (show wf64 op ∧ to.size ≤ reach ∧ nm.size ≤ reach ∧ wf64 t.k ∧ t.s.size ≤ reach ∧ wf64 t.n ∧ wf64 num ∧ alts.wf false from ⟨k1, k2, k3, k4, k5, k6, k7, hwf⟩)
    have hcst : vals.length ≤ m ∧ alts.len ≤ m ∧ alts.cost ≤ m := by simp only [St.cost] at hcost; omega
    have HCS := Lib.hid hcst
    have HMM : Hid (m ≤ 1000000) := Lib.hid (by omega)
    have HLA : Hid (vals.length ≤ 1000000) := Lib.hid (by omega)
    have HCX : Hid (∀ w', Below w.heap.size w w' → Calls Tryd.prog 80 #[.slice a2 n2 c2, .func (.func 81) #[] #[]] w' (MadeC w' fun q v' F => RowO 63 6 q v' alts.len F (fun xs F => StO q alts xs F))) := Lib.hid fun w' hb => cloneAllBr_any m (cloneBranch_any m HMM.out HI.out) alts HCS.out.2.2 HW.out.2.2.2.2.2.2.2 (by have := HCS.out; have := HMM.out; omega) _ w' (HS2.out.mono hb.size fun _ _ p q => StIn.below hb p q)
    have HPX : Hid (VlO vals (vlCells vals) []) := Lib.hid ⟨rfl, (fun i hi => by
      obtain ⟨-, _, _, e, -, hsx⟩ := hs
      obtain ⟨b, o, -, -, ht⟩ := hsx (by omega)
      exact (ht i hi).2.2.2), rfl⟩
    clear IH hs hs2 hcost k1 k2 k3 k4 k5 k6 k7 hcst hwf
    have HB0 : Hid (Below w.heap.size w ((w.alloc (.cells #[.int .i64 op, .string to, .string nm, .int .i64 t.k, .string t.s, .int .i64 t.n, .slice a1 n1 c1, .slice a2 n2 c2, .int .i64 num] 29)).alloc (.cells #[.int .i64 0, .string ⟨#[]⟩, .string ⟨#[]⟩, .int .i64 0, .string ⟨#[]⟩, .int .i64 0, .slice none 0 0, .slice none 0 0, .int .i64 0] 29))) := Lib.hid (((Below.refl _ w).alloc (Nat.le_refl _) _).alloc (by simp) _)
    have hsz : w.heap.size + 1 < ((w.alloc (.cells #[.int .i64 op, .string to, .string nm, .int .i64 t.k, .string t.s, .int .i64 t.n, .slice a1 n1 c1, .slice a2 n2 c2, .int .i64 num] 29)).alloc (.cells #[.int .i64 0, .string ⟨#[]⟩, .string ⟨#[]⟩, .int .i64 0, .string ⟨#[]⟩, .int .i64 0, .slice none 0 0, .slice none 0 0, .int .i64 0] 29)).heap.size := by simp <;> omega
    have HSZ := Lib.hid hsz
    have RA : Hid (((w.alloc (.cells #[.int .i64 op, .string to, .string nm, .int .i64 t.k, .string t.s, .int .i64 t.n, .slice a1 n1 c1, .slice a2 n2 c2, .int .i64 num] 29)).alloc (.cells #[.int .i64 0, .string ⟨#[]⟩, .string ⟨#[]⟩, .int .i64 0, .string ⟨#[]⟩, .int .i64 0, .slice none 0 0, .slice none 0 0, .int .i64 0] 29)).heap[w.heap.size]? = some (.cells #[.int .i64 op, .string to, .string nm, .int .i64 t.k, .string t.s, .int .i64 t.n, .slice a1 n1 c1, .slice a2 n2 c2, .int .i64 num] 29)) := Lib.hid ((Below.heap_alloc (w.alloc (.cells #[.int .i64 op, .string to, .string nm, .int .i64 t.k, .string t.s, .int .i64 t.n, .slice a1 n1 c1, .slice a2 n2 c2, .int .i64 num] 29)) _ w.heap.size (by simp)).trans (heap_alloc_new w _))
    have RZ : Hid (((w.alloc (.cells #[.int .i64 op, .string to, .string nm, .int .i64 t.k, .string t.s, .int .i64 t.n, .slice a1 n1 c1, .slice a2 n2 c2, .int .i64 num] 29)).alloc (.cells #[.int .i64 0, .string ⟨#[]⟩, .string ⟨#[]⟩, .int .i64 0, .string ⟨#[]⟩, .int .i64 0, .slice none 0 0, .slice none 0 0, .int .i64 0] 29)).heap[w.heap.size + 1]? = some (.cells #[.int .i64 0, .string ⟨#[]⟩, .string ⟨#[]⟩, .int .i64 0, .string ⟨#[]⟩, .int .i64 0, .slice none 0 0, .slice none 0 0, .int .i64 0] 29)) := Lib.hid (by have := heap_alloc_new (w.alloc (.cells #[.int .i64 op, .string to, .string nm, .int .i64 t.k, .string t.s, .int .i64 t.n, .slice a1 n1 c1, .slice a2 n2 c2, .int .i64 num] 29)) (.cells #[.int .i64 0, .string ⟨#[]⟩, .string ⟨#[]⟩, .int .i64 0, .string ⟨#[]⟩, .int .i64 0, .slice none 0 0, .slice none 0 0, .int .i64 0] 29); rw [show (w.alloc (.cells #[.int .i64 op, .string to, .string nm, .int .i64 t.k, .string t.s, .int .i64 t.n, .slice a1 n1 c1, .slice a2 n2 c2, .int .i64 num] 29)).heap.size = w.heap.size + 1 by simp] at this; exact this)
    have FA : Hid (∀ j, ((w.alloc (.cells #[.int .i64 op, .string to, .string nm, .int .i64 t.k, .string t.s, .int .i64 t.n, .slice a1 n1 c1, .slice a2 n2 c2, .int .i64 num] 29)).alloc (.cells #[.int .i64 0, .string ⟨#[]⟩, .string ⟨#[]⟩, .int .i64 0, .string ⟨#[]⟩, .int .i64 0, .slice none 0 0, .slice none 0 0, .int .i64 0] 29)).frozen? ⟨w.heap.size, j, none⟩ = false) := Lib.hid fun j => by
      rw [((Below.refl _ (w.alloc (.cells #[.int .i64 op, .string to, .string nm, .int .i64 t.k, .string t.s, .int .i64 t.n, .slice a1 n1 c1, .slice a2 n2 c2, .int .i64 num] 29))).alloc (Nat.le_refl _) (.cells #[.int .i64 0, .string ⟨#[]⟩, .string ⟨#[]⟩, .int .i64 0, .string ⟨#[]⟩, .int .i64 0, .slice none 0 0, .slice none 0 0, .int .i64 0] 29)).frozen (p := ⟨w.heap.size, j, none⟩) (by simp)]
      exact World.frozen?_alloc_new _ _ _ _
    have FZ : Hid (∀ j, ((w.alloc (.cells #[.int .i64 op, .string to, .string nm, .int .i64 t.k, .string t.s, .int .i64 t.n, .slice a1 n1 c1, .slice a2 n2 c2, .int .i64 num] 29)).alloc (.cells #[.int .i64 0, .string ⟨#[]⟩, .string ⟨#[]⟩, .int .i64 0, .string ⟨#[]⟩, .int .i64 0, .slice none 0 0, .slice none 0 0, .int .i64 0] 29)).frozen? ⟨w.heap.size + 1, j, none⟩ = false) := Lib.hid fun j => World.frozen?_alloc2_new _ _ _ _
    have A0 : ((w.alloc (.cells #[.int .i64 op, .string to, .string nm, .int .i64 t.k, .string t.s, .int .i64 t.n, .slice a1 n1 c1, .slice a2 n2 c2, .int .i64 num] 29)).alloc (.cells #[.int .i64 0, .string ⟨#[]⟩, .string ⟨#[]⟩, .int .i64 0, .string ⟨#[]⟩, .int .i64 0, .slice none 0 0, .slice none 0 0, .int .i64 0] 29)).cell? ⟨w.heap.size, 0, none⟩ = some (.int .i64 op) := (cell_of_row _ w.heap.size 0 _ _ _ RA.out).trans rfl
    have A1 : ((w.alloc (.cells #[.int .i64 op, .string to, .string nm, .int .i64 t.k, .string t.s, .int .i64 t.n, .slice a1 n1 c1, .slice a2 n2 c2, .int .i64 num] 29)).alloc (.cells #[.int .i64 0, .string ⟨#[]⟩, .string ⟨#[]⟩, .int .i64 0, .string ⟨#[]⟩, .int .i64 0, .slice none 0 0, .slice none 0 0, .int .i64 0] 29)).cell? ⟨w.heap.size, 1, none⟩ = some (.string to) := (cell_of_row _ w.heap.size 1 _ _ _ RA.out).trans rfl
    have A2 : ((w.alloc (.cells #[.int .i64 op, .string to, .string nm, .int .i64 t.k, .string t.s, .int .i64 t.n, .slice a1 n1 c1, .slice a2 n2 c2, .int .i64 num] 29)).alloc (.cells #[.int .i64 0, .string ⟨#[]⟩, .string ⟨#[]⟩, .int .i64 0, .string ⟨#[]⟩, .int .i64 0, .slice none 0 0, .slice none 0 0, .int .i64 0] 29)).cell? ⟨w.heap.size, 2, none⟩ = some (.string nm) := (cell_of_row _ w.heap.size 2 _ _ _ RA.out).trans rfl
    have A3 : ((w.alloc (.cells #[.int .i64 op, .string to, .string nm, .int .i64 t.k, .string t.s, .int .i64 t.n, .slice a1 n1 c1, .slice a2 n2 c2, .int .i64 num] 29)).alloc (.cells #[.int .i64 0, .string ⟨#[]⟩, .string ⟨#[]⟩, .int .i64 0, .string ⟨#[]⟩, .int .i64 0, .slice none 0 0, .slice none 0 0, .int .i64 0] 29)).cell? ⟨w.heap.size, 3, none⟩ = some (.int .i64 t.k) := (cell_of_row _ w.heap.size 3 _ _ _ RA.out).trans rfl
    have A4 : ((w.alloc (.cells #[.int .i64 op, .string to, .string nm, .int .i64 t.k, .string t.s, .int .i64 t.n, .slice a1 n1 c1, .slice a2 n2 c2, .int .i64 num] 29)).alloc (.cells #[.int .i64 0, .string ⟨#[]⟩, .string ⟨#[]⟩, .int .i64 0, .string ⟨#[]⟩, .int .i64 0, .slice none 0 0, .slice none 0 0, .int .i64 0] 29)).cell? ⟨w.heap.size, 4, none⟩ = some (.string t.s) := (cell_of_row _ w.heap.size 4 _ _ _ RA.out).trans rfl
    have A5 : ((w.alloc (.cells #[.int .i64 op, .string to, .string nm, .int .i64 t.k, .string t.s, .int .i64 t.n, .slice a1 n1 c1, .slice a2 n2 c2, .int .i64 num] 29)).alloc (.cells #[.int .i64 0, .string ⟨#[]⟩, .string ⟨#[]⟩, .int .i64 0, .string ⟨#[]⟩, .int .i64 0, .slice none 0 0, .slice none 0 0, .int .i64 0] 29)).cell? ⟨w.heap.size, 5, none⟩ = some (.int .i64 t.n) := (cell_of_row _ w.heap.size 5 _ _ _ RA.out).trans rfl
    have A6 : ((w.alloc (.cells #[.int .i64 op, .string to, .string nm, .int .i64 t.k, .string t.s, .int .i64 t.n, .slice a1 n1 c1, .slice a2 n2 c2, .int .i64 num] 29)).alloc (.cells #[.int .i64 0, .string ⟨#[]⟩, .string ⟨#[]⟩, .int .i64 0, .string ⟨#[]⟩, .int .i64 0, .slice none 0 0, .slice none 0 0, .int .i64 0] 29)).cell? ⟨w.heap.size, 6, none⟩ = some (.slice a1 n1 c1) := (cell_of_row _ w.heap.size 6 _ _ _ RA.out).trans rfl
    have A7 : ((w.alloc (.cells #[.int .i64 op, .string to, .string nm, .int .i64 t.k, .string t.s, .int .i64 t.n, .slice a1 n1 c1, .slice a2 n2 c2, .int .i64 num] 29)).alloc (.cells #[.int .i64 0, .string ⟨#[]⟩, .string ⟨#[]⟩, .int .i64 0, .string ⟨#[]⟩, .int .i64 0, .slice none 0 0, .slice none 0 0, .int .i64 0] 29)).cell? ⟨w.heap.size, 7, none⟩ = some (.slice a2 n2 c2) := (cell_of_row _ w.heap.size 7 _ _ _ RA.out).trans rfl
    have A8 : ((w.alloc (.cells #[.int .i64 op, .string to, .string nm, .int .i64 t.k, .string t.s, .int .i64 t.n, .slice a1 n1 c1, .slice a2 n2 c2, .int .i64 num] 29)).alloc (.cells #[.int .i64 0, .string ⟨#[]⟩, .string ⟨#[]⟩, .int .i64 0, .string ⟨#[]⟩, .int .i64 0, .slice none 0 0, .slice none 0 0, .int .i64 0] 29)).cell? ⟨w.heap.size, 8, none⟩ = some (.int .i64 num) := (cell_of_row _ w.heap.size 8 _ _ _ RA.out).trans rfl
    have hap := HS.out.mono HB0.out.size fun _ _ p q => VlIn.below HB0.out p q
    obtain ⟨hrn, ao, cp, hse, hcp, hsx⟩ := hap
    injection hse with hse1 hse2 hse3
    subst hse1 hse3
    have HNE := Lib.hid hse2
    have HSX : Hid (0 < n1 → ∃ b o, a1 = some ⟨b, o, none⟩ ∧ b < ((w.alloc (.cells #[.int .i64 op, .string to, .string nm, .int .i64 t.k, .string t.s, .int .i64 t.n, .slice a1 n1 c1, .slice a2 n2 c2, .int .i64 num] 29)).alloc (.cells #[.int .i64 0, .string ⟨#[]⟩, .string ⟨#[]⟩, .int .i64 0, .string ⟨#[]⟩, .int .i64 0, .slice none 0 0, .slice none 0 0, .int .i64 0] 29)).heap.size ∧ VlIn ((w.alloc (.cells #[.int .i64 op, .string to, .string nm, .int .i64 t.k, .string t.s, .int .i64 t.n, .slice a1 n1 c1, .slice a2 n2 c2, .int .i64 num] 29)).alloc (.cells #[.int .i64 0, .string ⟨#[]⟩, .string ⟨#[]⟩, .int .i64 0, .string ⟨#[]⟩, .int .i64 0, .slice none 0 0, .slice none 0 0, .int .i64 0] 29)) vals b o) := Lib.hid fun h => hsx (Nat.lt_of_lt_of_eq h hse2)
    have HCP := Lib.hid hcp
    have hnl : n1 ≤ 1000000 := Nat.le_trans (Nat.le_of_eq hse2) HLA.out
    have hnb : n1 * 32 ≤ 140737488355328 := by omega
    have hnr : n1 ≤ reach := Nat.le_trans (Nat.le_of_eq hse2) hrn
    obtain ⟨i0, hi, hz0, hz1, hz2⟩ := info_parts infoVl
    have HPP : Hid (VlO vals (vlCells vals) []) := Lib.hid HPX.out
    clear hrn hse2 hcp hsx hsz
    go_enter Tryd.func65, Tryd.ntmps65
    go_wp2_with (first
      | (at_builtin; refine wpList_append_vl _ rfl _ _ 26 rfl 36 i0 (.agg #[.int .i64 0, .string ⟨#[]⟩, .int .i64 0]) 32 Tryd.underlying26 hi hz0 hz1 hz2 rfl rfl a1 vals n1 c1 rfl HNE.out HSX.out HCP.out hnb hnl ?_
         intro v4 w4 oA4 hz4 gr4
         obtain ⟨Fv, av, mv, cv, rfl, hRO, hfr, hnd⟩ := rowO_app oA4 hz4 hnr HPP.out
         have RA4 : Hid (w4.heap[w.heap.size]? = some (.cells #[.int .i64 op, .string to, .string nm, .int .i64 t.k, .string t.s, .int .i64 t.n, .slice a1 n1 c1, .slice a2 n2 c2, .int .i64 num] 29)) := Lib.hid ((gr4.block _ (Nat.lt_of_succ_lt HSZ.out) (by simp)).trans RA.out)
         have RZ4 : Hid (w4.heap[w.heap.size + 1]? = some (.cells #[.int .i64 0, .string ⟨#[]⟩, .string ⟨#[]⟩, .int .i64 0, .string ⟨#[]⟩, .int .i64 0, .slice none 0 0, .slice none 0 0, .int .i64 0] 29)) := Lib.hid ((gr4.block _ HSZ.out (by simp)).trans RZ.out)
         have FA4 : Hid (∀ j, w4.frozen? ⟨w.heap.size, j, none⟩ = false) := Lib.hid fun j => (World.frozen?_of_block (a := ⟨w.heap.size, j, none⟩) (gr4.block _ (Nat.lt_of_succ_lt HSZ.out) (by simp))).trans (FA.out j)
         have FZ4 : Hid (∀ j, w4.frozen? ⟨w.heap.size + 1, j, none⟩ = false) := Lib.hid fun j => (World.frozen?_of_block (a := ⟨w.heap.size + 1, j, none⟩) (gr4.block _ HSZ.out (by simp))).trans (FZ.out j)
         have HB4 : Hid (Below w.heap.size w w4) := Lib.hid (HB0.out.grown gr4 HB0.out.size (fun k hk => by cases hk))
         have HSG : Hid (((w.alloc (.cells #[.int .i64 op, .string to, .string nm, .int .i64 t.k, .string t.s, .int .i64 t.n, .slice a1 n1 c1, .slice a2 n2 c2, .int .i64 num] 29)).alloc (.cells #[.int .i64 0, .string ⟨#[]⟩, .string ⟨#[]⟩, .int .i64 0, .string ⟨#[]⟩, .int .i64 0, .slice none 0 0, .slice none 0 0, .int .i64 0] 29)).heap.size ≤ w4.heap.size) := Lib.hid gr4.size
         have HRO := Lib.hid hRO
         have HFR := Lib.hid hfr
         have HND := Lib.hid hnd
         have A0 : w4.cell? ⟨w.heap.size, 0, none⟩ = some (.int .i64 op) := (cell_of_row _ w.heap.size 0 _ _ _ RA4.out).trans rfl
         have A1 : w4.cell? ⟨w.heap.size, 1, none⟩ = some (.string to) := (cell_of_row _ w.heap.size 1 _ _ _ RA4.out).trans rfl
         have A2 : w4.cell? ⟨w.heap.size, 2, none⟩ = some (.string nm) := (cell_of_row _ w.heap.size 2 _ _ _ RA4.out).trans rfl
         have A3 : w4.cell? ⟨w.heap.size, 3, none⟩ = some (.int .i64 t.k) := (cell_of_row _ w.heap.size 3 _ _ _ RA4.out).trans rfl
         have A4 : w4.cell? ⟨w.heap.size, 4, none⟩ = some (.string t.s) := (cell_of_row _ w.heap.size 4 _ _ _ RA4.out).trans rfl
         have A5 : w4.cell? ⟨w.heap.size, 5, none⟩ = some (.int .i64 t.n) := (cell_of_row _ w.heap.size 5 _ _ _ RA4.out).trans rfl
         have A6 : w4.cell? ⟨w.heap.size, 6, none⟩ = some (.slice a1 n1 c1) := (cell_of_row _ w.heap.size 6 _ _ _ RA4.out).trans rfl
         have A7 : w4.cell? ⟨w.heap.size, 7, none⟩ = some (.slice a2 n2 c2) := (cell_of_row _ w.heap.size 7 _ _ _ RA4.out).trans rfl
         have A8 : w4.cell? ⟨w.heap.size, 8, none⟩ = some (.int .i64 num) := (cell_of_row _ w.heap.size 8 _ _ _ RA4.out).trans rfl
         have AF := FA4.out 6
         clear oA4 hz4 gr4 hRO hfr hnd)
    )
    refine (HCX.out _ (HB4.out.setCell (p := ⟨w.heap.size, 6, none⟩) (Nat.le_refl _) _)).mono ?_
    rintro e u2 ⟨vz, Fz, rfl, hQz, hbz, hfz, hnz⟩
    obtain ⟨mz, az, cz, rfl, hQz⟩ := row_open hQz
    have hss : (w4.setCell ⟨w.heap.size, 6, none⟩ (.slice av mv cv)).heap.size = w4.heap.size := set_size _ _ _
    have RA5 : u2.heap[w.heap.size]? = some (.cells #[.int .i64 op, .string to, .string nm, .int .i64 t.k, .string t.s, .int .i64 t.n, .slice av mv cv, .slice a2 n2 c2, .int .i64 num] 29) := (hbz.block _ (by rw [hss]; have := HSZ.out; have := HSG.out; omega)).trans (row_set _ RA4.out)
    have RZ5 : u2.heap[w.heap.size + 1]? = some (.cells #[.int .i64 0, .string ⟨#[]⟩, .string ⟨#[]⟩, .int .i64 0, .string ⟨#[]⟩, .int .i64 0, .slice none 0 0, .slice none 0 0, .int .i64 0] 29) := (hbz.block _ (by rw [hss]; have := HSZ.out; have := HSG.out; omega)).trans ((Below.heap_setCell _ _ _ _ (by show w.heap.size + 1 ≠ w.heap.size; omega)).trans RZ4.out)
    have FA5 : ∀ j, u2.frozen? ⟨w.heap.size, j, none⟩ = false := fun j => (hbz.frozen (p := ⟨w.heap.size, j, none⟩) (by show w.heap.size < _; rw [hss]; have := HSZ.out; have := HSG.out; omega)).trans ((World.frozen?_setCell _ _ _ _).trans (FA4.out j))
    have FZ5 : ∀ j, u2.frozen? ⟨w.heap.size + 1, j, none⟩ = false := fun j => (hbz.frozen (p := ⟨w.heap.size + 1, j, none⟩) (by show w.heap.size + 1 < _; rw [hss]; have := HSZ.out; have := HSG.out; omega)).trans ((World.frozen?_setCell _ _ _ _).trans (FZ4.out j))
    have HSS : Hid (w4.heap.size ≤ u2.heap.size) := Lib.hid (by rw [← hss]; exact hbz.size)
    clear A0 A1 A2 A3 A4 A5 A6 A7 A8 AF
    have A0 : u2.cell? ⟨w.heap.size, 0, none⟩ = some (.int .i64 op) := (cell_of_row _ w.heap.size 0 _ _ _ RA5).trans rfl
    have A1 : u2.cell? ⟨w.heap.size, 1, none⟩ = some (.string to) := (cell_of_row _ w.heap.size 1 _ _ _ RA5).trans rfl
    have A2 : u2.cell? ⟨w.heap.size, 2, none⟩ = some (.string nm) := (cell_of_row _ w.heap.size 2 _ _ _ RA5).trans rfl
    have A3 : u2.cell? ⟨w.heap.size, 3, none⟩ = some (.int .i64 t.k) := (cell_of_row _ w.heap.size 3 _ _ _ RA5).trans rfl
    have A4 : u2.cell? ⟨w.heap.size, 4, none⟩ = some (.string t.s) := (cell_of_row _ w.heap.size 4 _ _ _ RA5).trans rfl
    have A5 : u2.cell? ⟨w.heap.size, 5, none⟩ = some (.int .i64 t.n) := (cell_of_row _ w.heap.size 5 _ _ _ RA5).trans rfl
    have A6 : u2.cell? ⟨w.heap.size, 6, none⟩ = some (.slice av mv cv) := (cell_of_row _ w.heap.size 6 _ _ _ RA5).trans rfl
    have A7 : u2.cell? ⟨w.heap.size, 7, none⟩ = some (.slice a2 n2 c2) := (cell_of_row _ w.heap.size 7 _ _ _ RA5).trans rfl
    have A8 : u2.cell? ⟨w.heap.size, 8, none⟩ = some (.int .i64 num) := (cell_of_row _ w.heap.size 8 _ _ _ RA5).trans rfl
    have AF := FA5 7
    have Z0 : u2.cell? ⟨w.heap.size + 1, 0, none⟩ = some (.int .i64 0) := (cell_of_row _ (w.heap.size + 1) 0 _ _ _ RZ5).trans rfl
    have ZF0 := FZ5 0
    have Z1 : u2.cell? ⟨w.heap.size + 1, 1, none⟩ = some (.string ⟨#[]⟩) := (cell_of_row _ (w.heap.size + 1) 1 _ _ _ RZ5).trans rfl
    have ZF1 := FZ5 1
    have Z2 : u2.cell? ⟨w.heap.size + 1, 2, none⟩ = some (.string ⟨#[]⟩) := (cell_of_row _ (w.heap.size + 1) 2 _ _ _ RZ5).trans rfl
    have ZF2 := FZ5 2
    have Z3 : u2.cell? ⟨w.heap.size + 1, 3, none⟩ = some (.int .i64 0) := (cell_of_row _ (w.heap.size + 1) 3 _ _ _ RZ5).trans rfl
    have ZF3 := FZ5 3
    have Z4 : u2.cell? ⟨w.heap.size + 1, 4, none⟩ = some (.string ⟨#[]⟩) := (cell_of_row _ (w.heap.size + 1) 4 _ _ _ RZ5).trans rfl
    have ZF4 := FZ5 4
    have Z5 : u2.cell? ⟨w.heap.size + 1, 5, none⟩ = some (.int .i64 0) := (cell_of_row _ (w.heap.size + 1) 5 _ _ _ RZ5).trans rfl
    have ZF5 := FZ5 5
    have Z6 : u2.cell? ⟨w.heap.size + 1, 6, none⟩ = some (.slice none 0 0) := (cell_of_row _ (w.heap.size + 1) 6 _ _ _ RZ5).trans rfl
    have ZF6 := FZ5 6
    have Z7 : u2.cell? ⟨w.heap.size + 1, 7, none⟩ = some (.slice none 0 0) := (cell_of_row _ (w.heap.size + 1) 7 _ _ _ RZ5).trans rfl
    have ZF7 := FZ5 7
    have Z8 : u2.cell? ⟨w.heap.size + 1, 8, none⟩ = some (.int .i64 0) := (cell_of_row _ (w.heap.size + 1) 8 _ _ _ RZ5).trans rfl
    have ZF8 := FZ5 8
    have RZ5 := Lib.hid RZ5
    have HBU : Hid (Below w.heap.size w u2) := Lib.hid ((HB4.out.setCell (p := ⟨w.heap.size, 6, none⟩) (Nat.le_refl _) _).trans (hbz.mono (HB4.out.setCell (p := ⟨w.heap.size, 6, none⟩) (Nat.le_refl _) _).size))
    have HQZ := Lib.hid hQz
    have HBZ := Lib.hid hbz
    have HFZ := Lib.hid hfz
    have HNZ := Lib.hid hnz
    clear RA5 FA5 FZ5 hQz hbz hfz hnz hss
    go_wp2_with fail
    have hr0 : (u2.setCell ⟨w.heap.size, 7, none⟩ (.slice az mz cz)).heap[w.heap.size + 1]? = some (.cells #[.int .i64 0, .string ⟨#[]⟩, .string ⟨#[]⟩, .int .i64 0, .string ⟨#[]⟩, .int .i64 0, .slice none 0 0, .slice none 0 0, .int .i64 0] 29) := (Below.heap_setCell _ _ _ _ (by show w.heap.size + 1 ≠ w.heap.size; omega)).trans RZ5.out
    have hr1 : (World.heap _)[w.heap.size + 1]? = some (.cells #[.int .i64 op, .string ⟨#[]⟩, .string ⟨#[]⟩, .int .i64 0, .string ⟨#[]⟩, .int .i64 0, .slice none 0 0, .slice none 0 0, .int .i64 0] 29 (0, 0)) := row_set (.int .i64 op) hr0 (i := 0)
    clear hr0
    have hr2 : (World.heap _)[w.heap.size + 1]? = some (.cells #[.int .i64 op, .string to, .string ⟨#[]⟩, .int .i64 0, .string ⟨#[]⟩, .int .i64 0, .slice none 0 0, .slice none 0 0, .int .i64 0] 29 (0, 0)) := row_set (.string to) hr1 (i := 1)
    clear hr1
    have hr3 : (World.heap _)[w.heap.size + 1]? = some (.cells #[.int .i64 op, .string to, .string nm, .int .i64 0, .string ⟨#[]⟩, .int .i64 0, .slice none 0 0, .slice none 0 0, .int .i64 0] 29 (0, 0)) := row_set (.string nm) hr2 (i := 2)
    clear hr2
    have hr4 : (World.heap _)[w.heap.size + 1]? = some (.cells #[.int .i64 op, .string to, .string nm, .int .i64 t.k, .string ⟨#[]⟩, .int .i64 0, .slice none 0 0, .slice none 0 0, .int .i64 0] 29 (0, 0)) := row_set (.int .i64 t.k) hr3 (i := 3)
    clear hr3
    have hr5 : (World.heap _)[w.heap.size + 1]? = some (.cells #[.int .i64 op, .string to, .string nm, .int .i64 t.k, .string t.s, .int .i64 0, .slice none 0 0, .slice none 0 0, .int .i64 0] 29 (0, 0)) := row_set (.string t.s) hr4 (i := 4)
    clear hr4
    have hr6 : (World.heap _)[w.heap.size + 1]? = some (.cells #[.int .i64 op, .string to, .string nm, .int .i64 t.k, .string t.s, .int .i64 t.n, .slice none 0 0, .slice none 0 0, .int .i64 0] 29 (0, 0)) := row_set (.int .i64 t.n) hr5 (i := 5)
    clear hr5
    have hr7 : (World.heap _)[w.heap.size + 1]? = some (.cells #[.int .i64 op, .string to, .string nm, .int .i64 t.k, .string t.s, .int .i64 t.n, .slice av mv cv, .slice none 0 0, .int .i64 0] 29 (0, 0)) := row_set (.slice av mv cv) hr6 (i := 6)
    clear hr6
    have hr8 : (World.heap _)[w.heap.size + 1]? = some (.cells #[.int .i64 op, .string to, .string nm, .int .i64 t.k, .string t.s, .int .i64 t.n, .slice av mv cv, .slice az mz cz, .int .i64 0] 29 (0, 0)) := row_set (.slice az mz cz) hr7 (i := 7)
    clear hr7
    have hr9 : (World.heap _)[w.heap.size + 1]? = some (.cells #[.int .i64 op, .string to, .string nm, .int .i64 t.k, .string t.s, .int .i64 t.n, .slice av mv cv, .slice az mz cz, .int .i64 num] 29 (0, 0)) := row_set (.int .i64 num) hr8 (i := 8)
    clear hr8
    have hrow := hr9
    refine bodyPost_ret (results_row1 rfl _ _ (w.heap.size + 1) 29 _ (0, 0) _ rfl hrow Tryd.underlying29 rfl (sizeSt _ _ _ _ _ _ _ _ _)) rfl ?_
    have hsF : ((((((((((u2.setCell ⟨w.heap.size, 7, none⟩ (.slice az mz cz)).setCell ⟨w.heap.size + 1, 0, none⟩ (.int .i64 op)).setCell ⟨w.heap.size + 1, 1, none⟩ (.string to)).setCell ⟨w.heap.size + 1, 2, none⟩ (.string nm)).setCell ⟨w.heap.size + 1, 3, none⟩ (.int .i64 t.k)).setCell ⟨w.heap.size + 1, 4, none⟩ (.string t.s)).setCell ⟨w.heap.size + 1, 5, none⟩ (.int .i64 t.n)).setCell ⟨w.heap.size + 1, 6, none⟩ (.slice av mv cv)).setCell ⟨w.heap.size + 1, 7, none⟩ (.slice az mz cz)).setCell ⟨w.heap.size + 1, 8, none⟩ (.int .i64 num)).heap.size = u2.heap.size := by simp only [set_size]
    have hfar : ∀ b, w.heap.size + 2 ≤ b → ((((((((((u2.setCell ⟨w.heap.size, 7, none⟩ (.slice az mz cz)).setCell ⟨w.heap.size + 1, 0, none⟩ (.int .i64 op)).setCell ⟨w.heap.size + 1, 1, none⟩ (.string to)).setCell ⟨w.heap.size + 1, 2, none⟩ (.string nm)).setCell ⟨w.heap.size + 1, 3, none⟩ (.int .i64 t.k)).setCell ⟨w.heap.size + 1, 4, none⟩ (.string t.s)).setCell ⟨w.heap.size + 1, 5, none⟩ (.int .i64 t.n)).setCell ⟨w.heap.size + 1, 6, none⟩ (.slice av mv cv)).setCell ⟨w.heap.size + 1, 7, none⟩ (.slice az mz cz)).setCell ⟨w.heap.size + 1, 8, none⟩ (.int .i64 num)).heap[b]? = u2.heap[b]? := fun b hb => by
      refine (Below.heap_setCell _ _ _ _ (by simp; omega)).trans ?_
      refine (Below.heap_setCell _ _ _ _ (by simp; omega)).trans ?_
      refine (Below.heap_setCell _ _ _ _ (by simp; omega)).trans ?_
      refine (Below.heap_setCell _ _ _ _ (by simp; omega)).trans ?_
      refine (Below.heap_setCell _ _ _ _ (by simp; omega)).trans ?_
      refine (Below.heap_setCell _ _ _ _ (by simp; omega)).trans ?_
      refine (Below.heap_setCell _ _ _ _ (by simp; omega)).trans ?_
      refine (Below.heap_setCell _ _ _ _ (by simp; omega)).trans ?_
      refine (Below.heap_setCell _ _ _ _ (by simp; omega)).trans ?_
      refine (Below.heap_setCell _ _ _ _ (by simp; omega)).trans ?_
      rfl
    have hs1 := HSZ.out
    have hs3 := HSS.out
    have hs2 := HSG.out
    have hss : (w4.setCell ⟨w.heap.size, 6, none⟩ (.slice av mv cv)).heap.size = w4.heap.size := set_size _ _ _
    have KF1 : KeepF w4 ((((((((((u2.setCell ⟨w.heap.size, 7, none⟩ (.slice az mz cz)).setCell ⟨w.heap.size + 1, 0, none⟩ (.int .i64 op)).setCell ⟨w.heap.size + 1, 1, none⟩ (.string to)).setCell ⟨w.heap.size + 1, 2, none⟩ (.string nm)).setCell ⟨w.heap.size + 1, 3, none⟩ (.int .i64 t.k)).setCell ⟨w.heap.size + 1, 4, none⟩ (.string t.s)).setCell ⟨w.heap.size + 1, 5, none⟩ (.int .i64 t.n)).setCell ⟨w.heap.size + 1, 6, none⟩ (.slice av mv cv)).setCell ⟨w.heap.size + 1, 7, none⟩ (.slice az mz cz)).setCell ⟨w.heap.size + 1, 8, none⟩ (.int .i64 num)) Fv := ⟨by rw [hsF]; exact hs3, fun b hb => by
      have h1 := HFR.out b hb
      exact (hfar b (by omega)).trans ((HBZ.out.block b (by rw [hss]; omega)).trans (Below.heap_setCell _ _ _ _ (by show b ≠ w.heap.size; omega)))⟩
    have hfz := HFZ.out
    rw [hss] at hfz
    have KF2 : KeepF u2 ((((((((((u2.setCell ⟨w.heap.size, 7, none⟩ (.slice az mz cz)).setCell ⟨w.heap.size + 1, 0, none⟩ (.int .i64 op)).setCell ⟨w.heap.size + 1, 1, none⟩ (.string to)).setCell ⟨w.heap.size + 1, 2, none⟩ (.string nm)).setCell ⟨w.heap.size + 1, 3, none⟩ (.int .i64 t.k)).setCell ⟨w.heap.size + 1, 4, none⟩ (.string t.s)).setCell ⟨w.heap.size + 1, 5, none⟩ (.int .i64 t.n)).setCell ⟨w.heap.size + 1, 6, none⟩ (.slice av mv cv)).setCell ⟨w.heap.size + 1, 7, none⟩ (.slice az mz cz)).setCell ⟨w.heap.size + 1, 8, none⟩ (.int .i64 num)) Fz := ⟨by rw [hsF]; exact Nat.le_refl _, fun b hb => hfar b (by have := hfz b hb; omega)⟩
    exact madeC_mk (F := Fv ++ Fz) rfl (⟨_, _, _, _, _, _, rfl, ⟨_, _, [], Fv, Fz, [], rfl, by simp, HW.out.1, HW.out.2.1, HW.out.2.2.1, HW.out.2.2.2.1, HW.out.2.2.2.2.1, HW.out.2.2.2.2.2.1, HW.out.2.2.2.2.2.2.1, HW.out.2.2.2.2.2.2.2, by rw [← HNE.out]; exact HRO.out.keep KF1 fun _ _ _ hp => hp, HQZ.out.keep KF2 fun _ _ hs hp => StO.keep hp (KF2.sub hs), rfl, rfl⟩⟩) ((((((((((HBU.out.setCell (p := ⟨w.heap.size, 7, none⟩) (Nat.le_refl _) (.slice az mz cz)).setCell (p := ⟨w.heap.size + 1, 0, none⟩) (by simp) (.int .i64 op)).setCell (p := ⟨w.heap.size + 1, 1, none⟩) (by simp) (.string to)).setCell (p := ⟨w.heap.size + 1, 2, none⟩) (by simp) (.string nm)).setCell (p := ⟨w.heap.size + 1, 3, none⟩) (by simp) (.int .i64 t.k)).setCell (p := ⟨w.heap.size + 1, 4, none⟩) (by simp) (.string t.s)).setCell (p := ⟨w.heap.size + 1, 5, none⟩) (by simp) (.int .i64 t.n)).setCell (p := ⟨w.heap.size + 1, 6, none⟩) (by simp) (.slice av mv cv)).setCell (p := ⟨w.heap.size + 1, 7, none⟩) (by simp) (.slice az mz cz)).setCell (p := ⟨w.heap.size + 1, 8, none⟩) (by simp) (.int .i64 num)) (mem_app (fun b h => by have := HFR.out b h; rw [hsF]; omega) (fun b h => by have := hfz b h; rw [hsF]; omega)) (nodup_range HND.out HNZ.out (fun b h => (HFR.out b h).2) (fun b h => (hfz b h).1))
end Go.Proofs.YtoidogfnjpmceaaDoor
