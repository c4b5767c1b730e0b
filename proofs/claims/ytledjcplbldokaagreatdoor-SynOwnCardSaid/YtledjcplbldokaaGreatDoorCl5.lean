/- syn.cloneExpr: an expression in new rows. Conditions: lengths. -/
import Derived.Test.YtledjcplbldokaaGreatDoorCl4
import Derived.Deep.RegionHeld3
import Derived.Deep.DrawnRows
namespace Go.Proofs.YtledjcplbldokaaGreatDoor
open Go.ChangeShapes Go.WideShapes Go.ChangeAt Go.RowKit
attribute [local go_sem ↓] Go.wp_at_zero Go.wp_at_succ

set_option maxRecDepth 100000 in
set_option maxHeartbeats 8000000 in
theorem cloneAlt_any (m : Nat) (hm : m ≤ 1000000) (HE : ∀ op nm num names L alts, (Ex.expr op nm num names L alts .nil).cost ≤ m → ∀ (v : Value) (w : World), ExV w (.expr op nm num names L alts .nil) v → Calls Tryz.prog 37 #[v] w (MadeC w (ExQ op nm num names L alts))) :
    ∀ (take : Int) (anm : ByteArray) (anum : Int) (anames : List ByteArray) (ae : Ex), (Ex.alt take anm anum anames ae .nil).cost ≤ m → ∀ (v : Value) (w : World), AlV w (.alt take anm anum anames ae .nil) v → Calls Tryz.prog 66 #[v] w (MadeC w (AlQ take anm anum anames ae)) := by
  intro take anm anum anames ae hcost v w hv
  obtain ⟨_, _, _, _, _, n0, a0, c0, op, nm, num, n1, a1, c1, n2, a2, c2, n3, a3, c3, he, rfl, k1, k2, hnm, hs, hx⟩ := hv
  injection he with q1 q2 q3 q4 q5
  subst q1 q2 q3 q4 q5
  have hx0 := hx
  obtain ⟨_, _, _, names, L, alts, _, _, _, _, _, _, _, _, _, rfl, e, r1, r2, r3, r4, r5, -⟩ := hx
  simp at e
  obtain ⟨rfl, rfl, rfl, -⟩ := e
  have HI := Lib.hid HE
  have HN := Lib.hid hs
  have HX := Lib.hid hx0
  have HW := Lib.hid (show wf64 take ∧ anm.size ≤ reach ∧ wf64 anum ∧ (Ex.expr op nm num names L alts .nil).wf true from ⟨k1, hnm, k2, rfl, r4, r5, trivial⟩)
  have hcst : (Ex.expr op nm num names L alts .nil).cost ≤ m := by simp only [Ex.cost] at hcost ⊢; omega
  have HCO := Lib.hid hcst
  have HLN : Hid (anames.length ≤ 1000000) := Lib.hid (by simp only [Ex.cost] at hcost; omega)
  clear HE hs hx0 hcost hcst k1 k2 hnm r1 r2 r3 r4 r5
  have HB0 : Hid (Below w.heap.size w ((w.alloc (.cells #[.int .i64 take, .string anm, .int .i64 anum, .slice a0 n0 c0, .int .i64 op, .string nm, .int .i64 num, .slice a1 n1 c1, .slice a2 n2 c2, .slice a3 n3 c3] 83)).alloc (.cells #[.int .i64 0, .string ⟨#[]⟩, .int .i64 0, .slice none 0 0, .int .i64 0, .string ⟨#[]⟩, .int .i64 0, .slice none 0 0, .slice none 0 0, .slice none 0 0] 83))) := Lib.hid (((Below.refl _ w).alloc (Nat.le_refl _) _).alloc (by simp) _)
  have hA := box2a w #[.int .i64 take, .string anm, .int .i64 anum, .slice a0 n0 c0, .int .i64 op, .string nm, .int .i64 num, .slice a1 n1 c1, .slice a2 n2 c2, .slice a3 n3 c3] #[.int .i64 0, .string ⟨#[]⟩, .int .i64 0, .slice none 0 0, .int .i64 0, .string ⟨#[]⟩, .int .i64 0, .slice none 0 0, .slice none 0 0, .slice none 0 0] 83 83
  have hB := box2b w #[.int .i64 take, .string anm, .int .i64 anum, .slice a0 n0 c0, .int .i64 op, .string nm, .int .i64 num, .slice a1 n1 c1, .slice a2 n2 c2, .slice a3 n3 c3] #[.int .i64 0, .string ⟨#[]⟩, .int .i64 0, .slice none 0 0, .int .i64 0, .string ⟨#[]⟩, .int .i64 0, .slice none 0 0, .slice none 0 0, .slice none 0 0] 83 83
  have A0 := hA 0 (.int .i64 take) rfl
  have A1 := hA 1 (.string anm) rfl
  have A2 := hA 2 (.int .i64 anum) rfl
  have A3 := hA 3 (.slice a0 n0 c0) rfl
  have A4 := hA 4 (.int .i64 op) rfl
  have A5 := hA 5 (.string nm) rfl
  have A6 := hA 6 (.int .i64 num) rfl
  have A7 := hA 7 (.slice a1 n1 c1) rfl
  have A8 := hA 8 (.slice a2 n2 c2) rfl
  have A9 := hA 9 (.slice a3 n3 c3) rfl
  have Z0 := hB 0 (.int .i64 0) rfl
  have Z1 := hB 1 (.string ⟨#[]⟩) rfl
  have Z2 := hB 2 (.int .i64 0) rfl
  have Z3 := hB 3 (.slice none 0 0) rfl
  have Z4 := hB 4 (.int .i64 0) rfl
  have Z5 := hB 5 (.string ⟨#[]⟩) rfl
  have Z6 := hB 6 (.int .i64 0) rfl
  have Z7 := hB 7 (.slice none 0 0) rfl
  have Z8 := hB 8 (.slice none 0 0) rfl
  have Z9 := hB 9 (.slice none 0 0) rfl
  clear hA hB
  have hr := heap_alloc_new (w.alloc (.cells #[.int .i64 take, .string anm, .int .i64 anum, .slice a0 n0 c0, .int .i64 op, .string nm, .int .i64 num, .slice a1 n1 c1, .slice a2 n2 c2, .slice a3 n3 c3] 83)) (.cells #[.int .i64 0, .string ⟨#[]⟩, .int .i64 0, .slice none 0 0, .int .i64 0, .string ⟨#[]⟩, .int .i64 0, .slice none 0 0, .slice none 0 0, .slice none 0 0] 83)
  have hs : (w.alloc (.cells #[.int .i64 take, .string anm, .int .i64 anum, .slice a0 n0 c0, .int .i64 op, .string nm, .int .i64 num, .slice a1 n1 c1, .slice a2 n2 c2, .slice a3 n3 c3] 83)).heap.size = w.heap.size + 1 := by simp
  rw [hs] at hr
  have hZF : ∀ j, ((w.alloc (.cells #[.int .i64 take, .string anm, .int .i64 anum, .slice a0 n0 c0, .int .i64 op, .string nm, .int .i64 num, .slice a1 n1 c1, .slice a2 n2 c2, .slice a3 n3 c3] 83)).alloc (.cells #[.int .i64 0, .string ⟨#[]⟩, .int .i64 0, .slice none 0 0, .int .i64 0, .string ⟨#[]⟩, .int .i64 0, .slice none 0 0, .slice none 0 0, .slice none 0 0] 83)).frozen? ⟨w.heap.size + 1, j, none⟩ = false := fun j => World.frozen?_alloc2_new _ _ _ _
  have ZF := hZF 0
  have ZF1 := hZF 1
  have ZF2 := hZF 2
  have ZF3 := hZF 3
  have ZF4 := hZF 4
  have ZF5 := hZF 5
  have ZF6 := hZF 6
  have ZF7 := hZF 7
  have ZF8 := hZF 8
  have ZF9 := hZF 9
  clear hZF
  have HR := Lib.hid hr
  clear hr hs
  have HSZ : Hid (w.heap.size < ((w.alloc (.cells #[.int .i64 take, .string anm, .int .i64 anum, .slice a0 n0 c0, .int .i64 op, .string nm, .int .i64 num, .slice a1 n1 c1, .slice a2 n2 c2, .slice a3 n3 c3] 83)).alloc (.cells #[.int .i64 0, .string ⟨#[]⟩, .int .i64 0, .slice none 0 0, .int .i64 0, .string ⟨#[]⟩, .int .i64 0, .slice none 0 0, .slice none 0 0, .slice none 0 0] 83)).heap.size ∧ w.heap.size + 1 < ((w.alloc (.cells #[.int .i64 take, .string anm, .int .i64 anum, .slice a0 n0 c0, .int .i64 op, .string nm, .int .i64 num, .slice a1 n1 c1, .slice a2 n2 c2, .slice a3 n3 c3] 83)).alloc (.cells #[.int .i64 0, .string ⟨#[]⟩, .int .i64 0, .slice none 0 0, .int .i64 0, .string ⟨#[]⟩, .int .i64 0, .slice none 0 0, .slice none 0 0, .slice none 0 0] 83)).heap.size) := Lib.hid (by simp <;> omega)
  have HC1 := Lib.hid (show ∀ w', Below w.heap.size w w' → Calls Tryz.prog 34 #[.slice a0 n0 c0] w' (MadeC w' fun q v' F => RowO 9 1 q v' anames.length F (fun xs F => TxO anames xs F)) from fun w' hb => cloneNames_any anames _ w' HLN.out (HN.out.mono hb.size fun _ _ p q => TxIn.below hb p q))
  have HC2 := Lib.hid (show ∀ w', Below w.heap.size w w' → Calls Tryz.prog 37 #[.agg #[.int .i64 op, .string nm, .int .i64 num, .slice a1 n1 c1, .slice a2 n2 c2, .slice a3 n3 c3]] w' (MadeC w' (ExQ op nm num names L alts)) from fun w' hb => HI.out op nm num names L alts HCO.out _ w' (HX.out.below hb))
  go_enter Tryz.func66, Tryz.ntmps66
  go_wp2_with fail
  go_region_held3 (fun w' => w'.cell? ⟨w.heap.size, 0, none⟩ = some (.int .i64 take) ∧ w'.cell? ⟨w.heap.size, 1, none⟩ = some (.string anm) ∧ w'.cell? ⟨w.heap.size, 2, none⟩ = some (.int .i64 anum) ∧ w'.cell? ⟨w.heap.size, 3, none⟩ = some (.slice a0 n0 c0) ∧ w'.cell? ⟨w.heap.size, 4, none⟩ = some (.int .i64 op) ∧ w'.cell? ⟨w.heap.size, 5, none⟩ = some (.string nm) ∧ w'.cell? ⟨w.heap.size, 6, none⟩ = some (.int .i64 num) ∧ w'.cell? ⟨w.heap.size, 7, none⟩ = some (.slice a1 n1 c1) ∧ w'.cell? ⟨w.heap.size, 8, none⟩ = some (.slice a2 n2 c2) ∧ w'.cell? ⟨w.heap.size, 9, none⟩ = some (.slice a3 n3 c3)) (first | go_keep | (simp [*]; done) | (refine ⟨?_, ?_, ?_, ?_, ?_, ?_, ?_, ?_, ?_, ?_⟩ <;> (first | assumption | (rw [HKK.out.cell (p := ⟨w.heap.size, _, none⟩) HSZ.out.1]; assumption) | (rw [HKK.out.cell (p := ⟨w.heap.size + 1, _, none⟩) HSZ.out.2]; assumption) | (rw [HKK.out.frozen (p := ⟨w.heap.size + 1, _, none⟩) HSZ.out.2]; assumption)))) (first | (go_at_call 34; refine (HC1.out _ (Below.drew HB0.out)).mono ?_; rintro e u1 ⟨vz1, F1, rfl, hQ1, hb1, hf1, hn1⟩; obtain ⟨n0z, a0z, c0z, rfl, hO1⟩ := row_open hQ1; have HKK : Hid (Below ((w.alloc (.cells #[.int .i64 take, .string anm, .int .i64 anum, .slice a0 n0 c0, .int .i64 op, .string nm, .int .i64 num, .slice a1 n1 c1, .slice a2 n2 c2, .slice a3 n3 c3] 83)).alloc (.cells #[.int .i64 0, .string ⟨#[]⟩, .int .i64 0, .slice none 0 0, .int .i64 0, .string ⟨#[]⟩, .int .i64 0, .slice none 0 0, .slice none 0 0, .slice none 0 0] 83)).heap.size ((w.alloc (.cells #[.int .i64 take, .string anm, .int .i64 anum, .slice a0 n0 c0, .int .i64 op, .string nm, .int .i64 num, .slice a1 n1 c1, .slice a2 n2 c2, .slice a3 n3 c3] 83)).alloc (.cells #[.int .i64 0, .string ⟨#[]⟩, .int .i64 0, .slice none 0 0, .int .i64 0, .string ⟨#[]⟩, .int .i64 0, .slice none 0 0, .slice none 0 0, .slice none 0 0] 83)) u1) := Lib.hid ((Below.drew (Below.refl _ ((w.alloc (.cells #[.int .i64 take, .string anm, .int .i64 anum, .slice a0 n0 c0, .int .i64 op, .string nm, .int .i64 num, .slice a1 n1 c1, .slice a2 n2 c2, .slice a3 n3 c3] 83)).alloc (.cells #[.int .i64 0, .string ⟨#[]⟩, .int .i64 0, .slice none 0 0, .int .i64 0, .string ⟨#[]⟩, .int .i64 0, .slice none 0 0, .slice none 0 0, .slice none 0 0] 83)))).trans hb1); have HB1 : Hid (Below w.heap.size w u1) := Lib.hid (HB0.out.trans (HKK.out.mono HB0.out.size)); have HQ1 := Lib.hid (And.intro hO1 (And.intro hb1 (And.intro hf1 hn1))); clear hO1 hb1 hf1 hn1) | (go_at_call 37; refine (HC2.out _ (HB1.out)).mono ?_; rintro e u2 ⟨vz2, F2, rfl, hQ2, hb2, hf2, hn2⟩; obtain ⟨n1z, a1z, c1z, n2z, a2z, c2z, n3z, a3z, c3z, rfl, hO2⟩ := hQ2; have HKQ := HKK.out.trans (hb2.mono HKK.out.size); clear HKK; have HKK := Lib.hid HKQ; clear HKQ; have HB2 : Hid (Below w.heap.size w u2) := Lib.hid (HB0.out.trans (HKK.out.mono HB0.out.size)); have HQ2 := Lib.hid (And.intro hO2 (And.intro hb2 (And.intro hf2 hn2))); clear hO2 hb2 hf2 hn2; have Z0 := (HKK.out.cell (p := ⟨w.heap.size + 1, 0, none⟩) HSZ.out.2).trans Z0; have ZF := (HKK.out.frozen (p := ⟨w.heap.size + 1, 0, none⟩) HSZ.out.2).trans ZF; have Z1 := (HKK.out.cell (p := ⟨w.heap.size + 1, 1, none⟩) HSZ.out.2).trans Z1; have ZF1 := (HKK.out.frozen (p := ⟨w.heap.size + 1, 1, none⟩) HSZ.out.2).trans ZF1; have Z2 := (HKK.out.cell (p := ⟨w.heap.size + 1, 2, none⟩) HSZ.out.2).trans Z2; have ZF2 := (HKK.out.frozen (p := ⟨w.heap.size + 1, 2, none⟩) HSZ.out.2).trans ZF2; have Z3 := (HKK.out.cell (p := ⟨w.heap.size + 1, 3, none⟩) HSZ.out.2).trans Z3; have ZF3 := (HKK.out.frozen (p := ⟨w.heap.size + 1, 3, none⟩) HSZ.out.2).trans ZF3; have Z4 := (HKK.out.cell (p := ⟨w.heap.size + 1, 4, none⟩) HSZ.out.2).trans Z4; have ZF4 := (HKK.out.frozen (p := ⟨w.heap.size + 1, 4, none⟩) HSZ.out.2).trans ZF4; have Z5 := (HKK.out.cell (p := ⟨w.heap.size + 1, 5, none⟩) HSZ.out.2).trans Z5; have ZF5 := (HKK.out.frozen (p := ⟨w.heap.size + 1, 5, none⟩) HSZ.out.2).trans ZF5; have Z6 := (HKK.out.cell (p := ⟨w.heap.size + 1, 6, none⟩) HSZ.out.2).trans Z6; have ZF6 := (HKK.out.frozen (p := ⟨w.heap.size + 1, 6, none⟩) HSZ.out.2).trans ZF6; have Z7 := (HKK.out.cell (p := ⟨w.heap.size + 1, 7, none⟩) HSZ.out.2).trans Z7; have ZF7 := (HKK.out.frozen (p := ⟨w.heap.size + 1, 7, none⟩) HSZ.out.2).trans ZF7; have Z8 := (HKK.out.cell (p := ⟨w.heap.size + 1, 8, none⟩) HSZ.out.2).trans Z8; have ZF8 := (HKK.out.frozen (p := ⟨w.heap.size + 1, 8, none⟩) HSZ.out.2).trans ZF8; have Z9 := (HKK.out.cell (p := ⟨w.heap.size + 1, 9, none⟩) HSZ.out.2).trans Z9; have ZF9 := (HKK.out.frozen (p := ⟨w.heap.size + 1, 9, none⟩) HSZ.out.2).trans ZF9))
  all_goals (
    go_wp2_with fail
    have hr0 : u2.heap[w.heap.size + 1]? = some (.cells #[.int .i64 0, .string ⟨#[]⟩, .int .i64 0, .slice none 0 0, .int .i64 0, .string ⟨#[]⟩, .int .i64 0, .slice none 0 0, .slice none 0 0, .slice none 0 0] 83) := (HKK.out.block (w.heap.size + 1) HSZ.out.2).trans HR.out
    have hr1 : (World.heap _)[w.heap.size + 1]? = some (.cells #[.int .i64 take, .string ⟨#[]⟩, .int .i64 0, .slice none 0 0, .int .i64 0, .string ⟨#[]⟩, .int .i64 0, .slice none 0 0, .slice none 0 0, .slice none 0 0] 83 (0, 0)) := row_set (.int .i64 take) hr0 (i := 0)
    clear hr0
    have hr2 : (World.heap _)[w.heap.size + 1]? = some (.cells #[.int .i64 take, .string anm, .int .i64 0, .slice none 0 0, .int .i64 0, .string ⟨#[]⟩, .int .i64 0, .slice none 0 0, .slice none 0 0, .slice none 0 0] 83 (0, 0)) := row_set (.string anm) hr1 (i := 1)
    clear hr1
    have hr3 : (World.heap _)[w.heap.size + 1]? = some (.cells #[.int .i64 take, .string anm, .int .i64 anum, .slice none 0 0, .int .i64 0, .string ⟨#[]⟩, .int .i64 0, .slice none 0 0, .slice none 0 0, .slice none 0 0] 83 (0, 0)) := row_set (.int .i64 anum) hr2 (i := 2)
    clear hr2
    have hr4 : (World.heap _)[w.heap.size + 1]? = some (.cells #[.int .i64 take, .string anm, .int .i64 anum, .slice a0z n0z c0z, .int .i64 0, .string ⟨#[]⟩, .int .i64 0, .slice none 0 0, .slice none 0 0, .slice none 0 0] 83 (0, 0)) := row_set (.slice a0z n0z c0z) hr3 (i := 3)
    clear hr3
    have hr5 : (World.heap _)[w.heap.size + 1]? = some (.cells #[.int .i64 take, .string anm, .int .i64 anum, .slice a0z n0z c0z, .int .i64 op, .string ⟨#[]⟩, .int .i64 0, .slice none 0 0, .slice none 0 0, .slice none 0 0] 83 (0, 0)) := row_set (.int .i64 op) hr4 (i := 4)
    clear hr4
    have hr6 : (World.heap _)[w.heap.size + 1]? = some (.cells #[.int .i64 take, .string anm, .int .i64 anum, .slice a0z n0z c0z, .int .i64 op, .string nm, .int .i64 0, .slice none 0 0, .slice none 0 0, .slice none 0 0] 83 (0, 0)) := row_set (.string nm) hr5 (i := 5)
    clear hr5
    have hr7 : (World.heap _)[w.heap.size + 1]? = some (.cells #[.int .i64 take, .string anm, .int .i64 anum, .slice a0z n0z c0z, .int .i64 op, .string nm, .int .i64 num, .slice none 0 0, .slice none 0 0, .slice none 0 0] 83 (0, 0)) := row_set (.int .i64 num) hr6 (i := 6)
    clear hr6
    have hr8 : (World.heap _)[w.heap.size + 1]? = some (.cells #[.int .i64 take, .string anm, .int .i64 anum, .slice a0z n0z c0z, .int .i64 op, .string nm, .int .i64 num, .slice a1z n1z c1z, .slice none 0 0, .slice none 0 0] 83 (0, 0)) := row_set (.slice a1z n1z c1z) hr7 (i := 7)
    clear hr7
    have hr9 : (World.heap _)[w.heap.size + 1]? = some (.cells #[.int .i64 take, .string anm, .int .i64 anum, .slice a0z n0z c0z, .int .i64 op, .string nm, .int .i64 num, .slice a1z n1z c1z, .slice a2z n2z c2z, .slice none 0 0] 83 (0, 0)) := row_set (.slice a2z n2z c2z) hr8 (i := 8)
    clear hr8
    have hr10 : (World.heap _)[w.heap.size + 1]? = some (.cells #[.int .i64 take, .string anm, .int .i64 anum, .slice a0z n0z c0z, .int .i64 op, .string nm, .int .i64 num, .slice a1z n1z c1z, .slice a2z n2z c2z, .slice a3z n3z c3z] 83 (0, 0)) := row_set (.slice a3z n3z c3z) hr9 (i := 9)
    clear hr9
    have hrow := hr10
    refine bodyPost_ret (results_row1 rfl _ _ (w.heap.size + 1) 83 _ (0, 0) _ rfl hrow Tryz.underlying83 rfl (sizeAl _ _ _ _ _ _ _ _ _ _)) rfl ?_
    have hs0 : w.heap.size + 2 ≤ ((w.alloc (.cells #[.int .i64 take, .string anm, .int .i64 anum, .slice a0 n0 c0, .int .i64 op, .string nm, .int .i64 num, .slice a1 n1 c1, .slice a2 n2 c2, .slice a3 n3 c3] 83)).alloc (.cells #[.int .i64 0, .string ⟨#[]⟩, .int .i64 0, .slice none 0 0, .int .i64 0, .string ⟨#[]⟩, .int .i64 0, .slice none 0 0, .slice none 0 0, .slice none 0 0] 83)).drew.heap.size := by show _ ≤ ((w.alloc (.cells #[.int .i64 take, .string anm, .int .i64 anum, .slice a0 n0 c0, .int .i64 op, .string nm, .int .i64 num, .slice a1 n1 c1, .slice a2 n2 c2, .slice a3 n3 c3] 83)).alloc (.cells #[.int .i64 0, .string ⟨#[]⟩, .int .i64 0, .slice none 0 0, .int .i64 0, .string ⟨#[]⟩, .int .i64 0, .slice none 0 0, .slice none 0 0, .slice none 0 0] 83)).heap.size; simp
    obtain ⟨hO1, hb1, hf1, hn1⟩ := HQ1.out
    have hs1 := hb1.size
    obtain ⟨hO2, hb2, hf2, hn2⟩ := HQ2.out
    have hs2 := hb2.size
    have hsF : ((((((((((u2.setCell ⟨w.heap.size + 1, 0, none⟩ (.int .i64 take)).setCell ⟨w.heap.size + 1, 1, none⟩ (.string anm)).setCell ⟨w.heap.size + 1, 2, none⟩ (.int .i64 anum)).setCell ⟨w.heap.size + 1, 3, none⟩ (.slice a0z n0z c0z)).setCell ⟨w.heap.size + 1, 4, none⟩ (.int .i64 op)).setCell ⟨w.heap.size + 1, 5, none⟩ (.string nm)).setCell ⟨w.heap.size + 1, 6, none⟩ (.int .i64 num)).setCell ⟨w.heap.size + 1, 7, none⟩ (.slice a1z n1z c1z)).setCell ⟨w.heap.size + 1, 8, none⟩ (.slice a2z n2z c2z)).setCell ⟨w.heap.size + 1, 9, none⟩ (.slice a3z n3z c3z)).heap.size = u2.heap.size := by simp only [set_size]
    have hfar : ∀ b, w.heap.size + 2 ≤ b → ((((((((((u2.setCell ⟨w.heap.size + 1, 0, none⟩ (.int .i64 take)).setCell ⟨w.heap.size + 1, 1, none⟩ (.string anm)).setCell ⟨w.heap.size + 1, 2, none⟩ (.int .i64 anum)).setCell ⟨w.heap.size + 1, 3, none⟩ (.slice a0z n0z c0z)).setCell ⟨w.heap.size + 1, 4, none⟩ (.int .i64 op)).setCell ⟨w.heap.size + 1, 5, none⟩ (.string nm)).setCell ⟨w.heap.size + 1, 6, none⟩ (.int .i64 num)).setCell ⟨w.heap.size + 1, 7, none⟩ (.slice a1z n1z c1z)).setCell ⟨w.heap.size + 1, 8, none⟩ (.slice a2z n2z c2z)).setCell ⟨w.heap.size + 1, 9, none⟩ (.slice a3z n3z c3z)).heap[b]? = u2.heap[b]? := fun b hb => by
      refine (Below.heap_setCell _ _ _ _ (by simp; omega)).trans ?_
      refine (Below.heap_setCell _ _ _ _ (by simp; omega)).trans ?_
      refine (Below.heap_setCell _ _ _ _ (by simp; omega)).trans ?_
      refine (Below.heap_setCell _ _ _ _ (by simp; omega)).trans ?_
      refine (Below.heap_setCell _ _ _ _ (by simp; omega)).trans ?_
      refine (Below.heap_setCell _ _ _ _ (by simp; omega)).trans ?_
      refine (Below.heap_setCell _ _ _ _ (by simp; omega)).trans ?_
      refine (Below.heap_setCell _ _ _ _ (by simp; omega)).trans ?_
      refine (Below.heap_setCell _ _ _ _ (by simp; omega)).trans ?_
      refine (Below.heap_setCell _ _ _ _ (by simp; omega)).trans ?_
      rfl
    have KF1 : KeepF u1 _ F1 := keep_made (fun b h => ⟨by have := (hf1 b h).1; omega, (hf1 b h).2⟩) ((Below.refl _ u1).trans (hb2.mono (by omega))) hfar (by omega)
    have KF2 : KeepF u2 _ F2 := keep_made (fun b h => ⟨by have := (hf2 b h).1; omega, (hf2 b h).2⟩) (Below.refl _ u2) hfar (by omega)
    exact madeC_mk (F := F1 ++ F2) rfl (⟨n0z, a0z, c0z, op, nm, num, n1z, a1z, c1z, n2z, a2z, c2z, n3z, a3z, c3z, rfl, ⟨_, [.int .i64 op, .string nm, .int .i64 num, .slice a1z n1z c1z, .slice a2z n2z c2z, .slice a3z n3z c3z], [], F1, F2, [], rfl, rfl, by simp, HW.out.1, HW.out.2.1, HW.out.2.2.1, HW.out.2.2.2, rfl, (hO1.keep KF1 fun _ _ _ hp => hp), ExO.keep hO2 KF2, rfl, rfl⟩⟩) ((((((((((HB2.out.setCell (p := ⟨w.heap.size + 1, 0, none⟩) (by simp) (.int .i64 take)).setCell (p := ⟨w.heap.size + 1, 1, none⟩) (by simp) (.string anm)).setCell (p := ⟨w.heap.size + 1, 2, none⟩) (by simp) (.int .i64 anum)).setCell (p := ⟨w.heap.size + 1, 3, none⟩) (by simp) (.slice a0z n0z c0z)).setCell (p := ⟨w.heap.size + 1, 4, none⟩) (by simp) (.int .i64 op)).setCell (p := ⟨w.heap.size + 1, 5, none⟩) (by simp) (.string nm)).setCell (p := ⟨w.heap.size + 1, 6, none⟩) (by simp) (.int .i64 num)).setCell (p := ⟨w.heap.size + 1, 7, none⟩) (by simp) (.slice a1z n1z c1z)).setCell (p := ⟨w.heap.size + 1, 8, none⟩) (by simp) (.slice a2z n2z c2z)).setCell (p := ⟨w.heap.size + 1, 9, none⟩) (by simp) (.slice a3z n3z c3z)) (mem_app (fun b h => ⟨by have := (hf1 b h).1; omega, by have := (hf1 b h).2; omega⟩) (fun b h => ⟨by have := (hf2 b h).1; omega, by have := (hf2 b h).2; omega⟩)) (nodup_range hn1 hn2 (fun b h => (hf1 b h).2) (fun b h => (hf2 b h).1)))
set_option maxRecDepth 100000 in
set_option maxHeartbeats 8000000 in
theorem cloneExpr_any (m : Nat) (hm : m ≤ 1000000) : ∀ op nm num names L alts, (Ex.expr op nm num names L alts .nil).cost ≤ m → ∀ (v : Value) (w : World), ExV w (.expr op nm num names L alts .nil) v → Calls Tryz.prog 37 #[v] w (MadeC w (ExQ op nm num names L alts)) := by
  induction m with
  | zero => intro op nm num names L alts h; simp only [Ex.cost] at h; omega
  | succ m IH =>
    intro op nm num names L alts hcost v w hv
    obtain ⟨_, _, _, _, _, _, n1, a1, c1, n2, a2, c2, n3, a3, c3, he, rfl, k1, k2, hnm, hw2, hw3, hs1, hs2, hs3⟩ := hv
    injection he with q1 q2 q3 q4 q5 q6
    subst q1 q2 q3 q4 q5 q6
    have HI := Lib.hid (IH (by omega))
    have HMM : Hid (m ≤ 1000000) := Lib.hid (by omega)
    have HN := Lib.hid hs1
    have HL := Lib.hid hs2
    have HA := Lib.hid hs3
    have HW := Lib.hid (show wf64 op ∧ nm.size ≤ reach ∧ wf64 num ∧ L.wf true ∧ alts.wf false from ⟨k1, hnm, k2, hw2, hw3⟩)
    have hcst : names.length ≤ 1000000 ∧ L.cost ≤ m ∧ alts.cost ≤ m := by simp only [Ex.cost] at hcost; omega
    have HCO := Lib.hid hcst
    have HLN : Hid (names.length ≤ 1000000) := Lib.hid hcst.1
    have HLL : Hid (L.len ≤ 1000000) := Lib.hid (by have := ex_len_cost L; omega)
    have HLA : Hid (alts.len ≤ 1000000) := Lib.hid (by have := ex_len_cost alts; omega)
    clear IH hs1 hs2 hs3 hcost hcst k1 k2 hnm hw2 hw3
    have HB0 : Hid (Below w.heap.size w ((w.alloc (.cells #[.int .i64 op, .string nm, .int .i64 num, .slice a1 n1 c1, .slice a2 n2 c2, .slice a3 n3 c3] 35)).alloc (.cells #[.int .i64 0, .string ⟨#[]⟩, .int .i64 0, .slice none 0 0, .slice none 0 0, .slice none 0 0] 35))) := Lib.hid (((Below.refl _ w).alloc (Nat.le_refl _) _).alloc (by simp) _)
    have hA := box2a w #[.int .i64 op, .string nm, .int .i64 num, .slice a1 n1 c1, .slice a2 n2 c2, .slice a3 n3 c3] #[.int .i64 0, .string ⟨#[]⟩, .int .i64 0, .slice none 0 0, .slice none 0 0, .slice none 0 0] 35 35
    have hB := box2b w #[.int .i64 op, .string nm, .int .i64 num, .slice a1 n1 c1, .slice a2 n2 c2, .slice a3 n3 c3] #[.int .i64 0, .string ⟨#[]⟩, .int .i64 0, .slice none 0 0, .slice none 0 0, .slice none 0 0] 35 35
    have A0 := hA 0 (.int .i64 op) rfl
    have A1 := hA 1 (.string nm) rfl
    have A2 := hA 2 (.int .i64 num) rfl
    have A3 := hA 3 (.slice a1 n1 c1) rfl
    have A4 := hA 4 (.slice a2 n2 c2) rfl
    have A5 := hA 5 (.slice a3 n3 c3) rfl
    have Z0 := hB 0 (.int .i64 0) rfl
    have Z1 := hB 1 (.string ⟨#[]⟩) rfl
    have Z2 := hB 2 (.int .i64 0) rfl
    have Z3 := hB 3 (.slice none 0 0) rfl
    have Z4 := hB 4 (.slice none 0 0) rfl
    have Z5 := hB 5 (.slice none 0 0) rfl
    clear hA hB
    have hr := heap_alloc_new (w.alloc (.cells #[.int .i64 op, .string nm, .int .i64 num, .slice a1 n1 c1, .slice a2 n2 c2, .slice a3 n3 c3] 35)) (.cells #[.int .i64 0, .string ⟨#[]⟩, .int .i64 0, .slice none 0 0, .slice none 0 0, .slice none 0 0] 35)
    have hs : (w.alloc (.cells #[.int .i64 op, .string nm, .int .i64 num, .slice a1 n1 c1, .slice a2 n2 c2, .slice a3 n3 c3] 35)).heap.size = w.heap.size + 1 := by simp
    rw [hs] at hr
    have hZF : ∀ j, ((w.alloc (.cells #[.int .i64 op, .string nm, .int .i64 num, .slice a1 n1 c1, .slice a2 n2 c2, .slice a3 n3 c3] 35)).alloc (.cells #[.int .i64 0, .string ⟨#[]⟩, .int .i64 0, .slice none 0 0, .slice none 0 0, .slice none 0 0] 35)).frozen? ⟨w.heap.size + 1, j, none⟩ = false := fun j => World.frozen?_alloc2_new _ _ _ _
    have ZF := hZF 0
    have ZF1 := hZF 1
    have ZF2 := hZF 2
    have ZF3 := hZF 3
    have ZF4 := hZF 4
    have ZF5 := hZF 5
    clear hZF
    have HR := Lib.hid hr
    clear hr hs
    have HSZ : Hid (w.heap.size < ((w.alloc (.cells #[.int .i64 op, .string nm, .int .i64 num, .slice a1 n1 c1, .slice a2 n2 c2, .slice a3 n3 c3] 35)).alloc (.cells #[.int .i64 0, .string ⟨#[]⟩, .int .i64 0, .slice none 0 0, .slice none 0 0, .slice none 0 0] 35)).heap.size ∧ w.heap.size + 1 < ((w.alloc (.cells #[.int .i64 op, .string nm, .int .i64 num, .slice a1 n1 c1, .slice a2 n2 c2, .slice a3 n3 c3] 35)).alloc (.cells #[.int .i64 0, .string ⟨#[]⟩, .int .i64 0, .slice none 0 0, .slice none 0 0, .slice none 0 0] 35)).heap.size) := Lib.hid (by simp <;> omega)
    have HC1 := Lib.hid (show ∀ w', Below w.heap.size w w' → Calls Tryz.prog 34 #[.slice a1 n1 c1] w' (MadeC w' fun q v' F => RowO 9 1 q v' names.length F (fun xs F => TxO names xs F)) from fun w' hb => cloneNames_any names _ w' HLN.out (HN.out.mono hb.size fun _ _ p q => TxIn.below hb p q))
    have HC2 := Lib.hid (show ∀ w', Below w.heap.size w w' → Calls Tryz.prog 64 #[.slice a2 n2 c2, .func (.func 37) #[] #[]] w' (MadeC w' fun q v' F => RowO 35 6 q v' L.len F (fun xs F => ExO q L xs F)) from fun w' hb => cloneAllEx_any m HI.out L HCO.out.2.1 HW.out.2.2.2.1 HLL.out _ w' (HL.out.mono hb.size fun _ _ p q => ExIn.below hb p q))
    have HC3 := Lib.hid (show ∀ w', Below w.heap.size w w' → Calls Tryz.prog 65 #[.slice a3 n3 c3, .func (.func 66) #[] #[]] w' (MadeC w' fun q v' F => RowO 83 10 q v' alts.len F (fun xs F => ExO q alts xs F)) from fun w' hb => cloneAllAl_any m (cloneAlt_any m HMM.out HI.out) alts HCO.out.2.2 HW.out.2.2.2.2 HLA.out _ w' (HA.out.mono hb.size fun _ _ p q => ExIn.below hb p q))
    go_enter Tryz.func37, Tryz.ntmps37
    go_wp2_with fail
    go_region_held3 (fun w' => w'.cell? ⟨w.heap.size, 0, none⟩ = some (.int .i64 op) ∧ w'.cell? ⟨w.heap.size, 1, none⟩ = some (.string nm) ∧ w'.cell? ⟨w.heap.size, 2, none⟩ = some (.int .i64 num) ∧ w'.cell? ⟨w.heap.size, 3, none⟩ = some (.slice a1 n1 c1) ∧ w'.cell? ⟨w.heap.size, 4, none⟩ = some (.slice a2 n2 c2) ∧ w'.cell? ⟨w.heap.size, 5, none⟩ = some (.slice a3 n3 c3)) (first | go_keep | (simp [*]; done) | (refine ⟨?_, ?_, ?_, ?_, ?_, ?_⟩ <;> (first | assumption | (rw [HKK.out.cell (p := ⟨w.heap.size, _, none⟩) HSZ.out.1]; assumption) | (rw [HKK.out.cell (p := ⟨w.heap.size + 1, _, none⟩) HSZ.out.2]; assumption) | (rw [HKK.out.frozen (p := ⟨w.heap.size + 1, _, none⟩) HSZ.out.2]; assumption)))) (first | (go_at_call 34; refine (HC1.out _ (Below.drew HB0.out)).mono ?_; rintro e u1 ⟨vz1, F1, rfl, hQ1, hb1, hf1, hn1⟩; obtain ⟨n1z, a1z, c1z, rfl, hO1⟩ := row_open hQ1; have HKK : Hid (Below ((w.alloc (.cells #[.int .i64 op, .string nm, .int .i64 num, .slice a1 n1 c1, .slice a2 n2 c2, .slice a3 n3 c3] 35)).alloc (.cells #[.int .i64 0, .string ⟨#[]⟩, .int .i64 0, .slice none 0 0, .slice none 0 0, .slice none 0 0] 35)).heap.size ((w.alloc (.cells #[.int .i64 op, .string nm, .int .i64 num, .slice a1 n1 c1, .slice a2 n2 c2, .slice a3 n3 c3] 35)).alloc (.cells #[.int .i64 0, .string ⟨#[]⟩, .int .i64 0, .slice none 0 0, .slice none 0 0, .slice none 0 0] 35)) u1) := Lib.hid ((Below.drew (Below.refl _ ((w.alloc (.cells #[.int .i64 op, .string nm, .int .i64 num, .slice a1 n1 c1, .slice a2 n2 c2, .slice a3 n3 c3] 35)).alloc (.cells #[.int .i64 0, .string ⟨#[]⟩, .int .i64 0, .slice none 0 0, .slice none 0 0, .slice none 0 0] 35)))).trans hb1); have HB1 : Hid (Below w.heap.size w u1) := Lib.hid (HB0.out.trans (HKK.out.mono HB0.out.size)); have HQ1 := Lib.hid (And.intro hO1 (And.intro hb1 (And.intro hf1 hn1))); clear hO1 hb1 hf1 hn1) | (go_at_call 64; refine (HC2.out _ (HB1.out)).mono ?_; rintro e u2 ⟨vz2, F2, rfl, hQ2, hb2, hf2, hn2⟩; obtain ⟨n2z, a2z, c2z, rfl, hO2⟩ := row_open hQ2; have HKQ := HKK.out.trans (hb2.mono HKK.out.size); clear HKK; have HKK := Lib.hid HKQ; clear HKQ; have HB2 : Hid (Below w.heap.size w u2) := Lib.hid (HB0.out.trans (HKK.out.mono HB0.out.size)); have HQ2 := Lib.hid (And.intro hO2 (And.intro hb2 (And.intro hf2 hn2))); clear hO2 hb2 hf2 hn2) | (go_at_call 65; refine (HC3.out _ (HB2.out)).mono ?_; rintro e u3 ⟨vz3, F3, rfl, hQ3, hb3, hf3, hn3⟩; obtain ⟨n3z, a3z, c3z, rfl, hO3⟩ := row_open hQ3; have HKQ := HKK.out.trans (hb3.mono HKK.out.size); clear HKK; have HKK := Lib.hid HKQ; clear HKQ; have HB3 : Hid (Below w.heap.size w u3) := Lib.hid (HB0.out.trans (HKK.out.mono HB0.out.size)); have HQ3 := Lib.hid (And.intro hO3 (And.intro hb3 (And.intro hf3 hn3))); clear hO3 hb3 hf3 hn3; have Z0 := (HKK.out.cell (p := ⟨w.heap.size + 1, 0, none⟩) HSZ.out.2).trans Z0; have ZF := (HKK.out.frozen (p := ⟨w.heap.size + 1, 0, none⟩) HSZ.out.2).trans ZF; have Z1 := (HKK.out.cell (p := ⟨w.heap.size + 1, 1, none⟩) HSZ.out.2).trans Z1; have ZF1 := (HKK.out.frozen (p := ⟨w.heap.size + 1, 1, none⟩) HSZ.out.2).trans ZF1; have Z2 := (HKK.out.cell (p := ⟨w.heap.size + 1, 2, none⟩) HSZ.out.2).trans Z2; have ZF2 := (HKK.out.frozen (p := ⟨w.heap.size + 1, 2, none⟩) HSZ.out.2).trans ZF2; have Z3 := (HKK.out.cell (p := ⟨w.heap.size + 1, 3, none⟩) HSZ.out.2).trans Z3; have ZF3 := (HKK.out.frozen (p := ⟨w.heap.size + 1, 3, none⟩) HSZ.out.2).trans ZF3; have Z4 := (HKK.out.cell (p := ⟨w.heap.size + 1, 4, none⟩) HSZ.out.2).trans Z4; have ZF4 := (HKK.out.frozen (p := ⟨w.heap.size + 1, 4, none⟩) HSZ.out.2).trans ZF4; have Z5 := (HKK.out.cell (p := ⟨w.heap.size + 1, 5, none⟩) HSZ.out.2).trans Z5; have ZF5 := (HKK.out.frozen (p := ⟨w.heap.size + 1, 5, none⟩) HSZ.out.2).trans ZF5))
    all_goals (
      go_wp2_with fail
      have hr0 : u3.heap[w.heap.size + 1]? = some (.cells #[.int .i64 0, .string ⟨#[]⟩, .int .i64 0, .slice none 0 0, .slice none 0 0, .slice none 0 0] 35) := (HKK.out.block (w.heap.size + 1) HSZ.out.2).trans HR.out
      have hr1 : (World.heap _)[w.heap.size + 1]? = some (.cells #[.int .i64 op, .string ⟨#[]⟩, .int .i64 0, .slice none 0 0, .slice none 0 0, .slice none 0 0] 35 (0, 0)) := row_set (.int .i64 op) hr0 (i := 0)
      clear hr0
      have hr2 : (World.heap _)[w.heap.size + 1]? = some (.cells #[.int .i64 op, .string nm, .int .i64 0, .slice none 0 0, .slice none 0 0, .slice none 0 0] 35 (0, 0)) := row_set (.string nm) hr1 (i := 1)
      clear hr1
      have hr3 : (World.heap _)[w.heap.size + 1]? = some (.cells #[.int .i64 op, .string nm, .int .i64 num, .slice none 0 0, .slice none 0 0, .slice none 0 0] 35 (0, 0)) := row_set (.int .i64 num) hr2 (i := 2)
      clear hr2
      have hr4 : (World.heap _)[w.heap.size + 1]? = some (.cells #[.int .i64 op, .string nm, .int .i64 num, .slice a1z n1z c1z, .slice none 0 0, .slice none 0 0] 35 (0, 0)) := row_set (.slice a1z n1z c1z) hr3 (i := 3)
      clear hr3
      have hr5 : (World.heap _)[w.heap.size + 1]? = some (.cells #[.int .i64 op, .string nm, .int .i64 num, .slice a1z n1z c1z, .slice a2z n2z c2z, .slice none 0 0] 35 (0, 0)) := row_set (.slice a2z n2z c2z) hr4 (i := 4)
      clear hr4
      have hr6 : (World.heap _)[w.heap.size + 1]? = some (.cells #[.int .i64 op, .string nm, .int .i64 num, .slice a1z n1z c1z, .slice a2z n2z c2z, .slice a3z n3z c3z] 35 (0, 0)) := row_set (.slice a3z n3z c3z) hr5 (i := 5)
      clear hr5
      have hrow := hr6
      refine bodyPost_ret (results_row1 rfl _ _ (w.heap.size + 1) 35 _ (0, 0) _ rfl hrow Tryz.underlying35 rfl (sizeEx _ _ _ _ _ _)) rfl ?_
      have hs0 : w.heap.size + 2 ≤ ((w.alloc (.cells #[.int .i64 op, .string nm, .int .i64 num, .slice a1 n1 c1, .slice a2 n2 c2, .slice a3 n3 c3] 35)).alloc (.cells #[.int .i64 0, .string ⟨#[]⟩, .int .i64 0, .slice none 0 0, .slice none 0 0, .slice none 0 0] 35)).drew.heap.size := by show _ ≤ ((w.alloc (.cells #[.int .i64 op, .string nm, .int .i64 num, .slice a1 n1 c1, .slice a2 n2 c2, .slice a3 n3 c3] 35)).alloc (.cells #[.int .i64 0, .string ⟨#[]⟩, .int .i64 0, .slice none 0 0, .slice none 0 0, .slice none 0 0] 35)).heap.size; simp
      obtain ⟨hO1, hb1, hf1, hn1⟩ := HQ1.out
      have hs1 := hb1.size
      obtain ⟨hO2, hb2, hf2, hn2⟩ := HQ2.out
      have hs2 := hb2.size
      obtain ⟨hO3, hb3, hf3, hn3⟩ := HQ3.out
      have hs3 := hb3.size
      have hsF : ((((((u3.setCell ⟨w.heap.size + 1, 0, none⟩ (.int .i64 op)).setCell ⟨w.heap.size + 1, 1, none⟩ (.string nm)).setCell ⟨w.heap.size + 1, 2, none⟩ (.int .i64 num)).setCell ⟨w.heap.size + 1, 3, none⟩ (.slice a1z n1z c1z)).setCell ⟨w.heap.size + 1, 4, none⟩ (.slice a2z n2z c2z)).setCell ⟨w.heap.size + 1, 5, none⟩ (.slice a3z n3z c3z)).heap.size = u3.heap.size := by simp only [set_size]
      have hfar : ∀ b, w.heap.size + 2 ≤ b → ((((((u3.setCell ⟨w.heap.size + 1, 0, none⟩ (.int .i64 op)).setCell ⟨w.heap.size + 1, 1, none⟩ (.string nm)).setCell ⟨w.heap.size + 1, 2, none⟩ (.int .i64 num)).setCell ⟨w.heap.size + 1, 3, none⟩ (.slice a1z n1z c1z)).setCell ⟨w.heap.size + 1, 4, none⟩ (.slice a2z n2z c2z)).setCell ⟨w.heap.size + 1, 5, none⟩ (.slice a3z n3z c3z)).heap[b]? = u3.heap[b]? := fun b hb => by
        refine (Below.heap_setCell _ _ _ _ (by simp; omega)).trans ?_
        refine (Below.heap_setCell _ _ _ _ (by simp; omega)).trans ?_
        refine (Below.heap_setCell _ _ _ _ (by simp; omega)).trans ?_
        refine (Below.heap_setCell _ _ _ _ (by simp; omega)).trans ?_
        refine (Below.heap_setCell _ _ _ _ (by simp; omega)).trans ?_
        refine (Below.heap_setCell _ _ _ _ (by simp; omega)).trans ?_
        rfl
      have KF1 : KeepF u1 _ F1 := keep_made (fun b h => ⟨by have := (hf1 b h).1; omega, (hf1 b h).2⟩) (((Below.refl _ u1).trans (hb2.mono (by omega))).trans (hb3.mono (by omega))) hfar (by omega)
      have KF2 : KeepF u2 _ F2 := keep_made (fun b h => ⟨by have := (hf2 b h).1; omega, (hf2 b h).2⟩) ((Below.refl _ u2).trans (hb3.mono (by omega))) hfar (by omega)
      have KF3 : KeepF u3 _ F3 := keep_made (fun b h => ⟨by have := (hf3 b h).1; omega, (hf3 b h).2⟩) (Below.refl _ u3) hfar (by omega)
      exact madeC_mk (F := F1 ++ F2 ++ F3) rfl (⟨n1z, a1z, c1z, n2z, a2z, c2z, n3z, a3z, c3z, rfl, ⟨_, _, _, [], F1, F2, F3, [], rfl, by simp, HW.out.1, HW.out.2.1, HW.out.2.2.1, HW.out.2.2.2.1, HW.out.2.2.2.2, (hO1.keep KF1 fun _ _ _ hp => hp), (hO2.keep KF2 fun _ _ hs hp => ExO.keep hp (KF2.sub hs)), (hO3.keep KF3 fun _ _ hs hp => ExO.keep hp (KF3.sub hs)), rfl, rfl⟩⟩) ((((((HB3.out.setCell (p := ⟨w.heap.size + 1, 0, none⟩) (by simp) (.int .i64 op)).setCell (p := ⟨w.heap.size + 1, 1, none⟩) (by simp) (.string nm)).setCell (p := ⟨w.heap.size + 1, 2, none⟩) (by simp) (.int .i64 num)).setCell (p := ⟨w.heap.size + 1, 3, none⟩) (by simp) (.slice a1z n1z c1z)).setCell (p := ⟨w.heap.size + 1, 4, none⟩) (by simp) (.slice a2z n2z c2z)).setCell (p := ⟨w.heap.size + 1, 5, none⟩) (by simp) (.slice a3z n3z c3z)) (mem_app (mem_app (fun b h => ⟨by have := (hf1 b h).1; omega, by have := (hf1 b h).2; omega⟩) (fun b h => ⟨by have := (hf2 b h).1; omega, by have := (hf2 b h).2; omega⟩)) (fun b h => ⟨by have := (hf3 b h).1; omega, by have := (hf3 b h).2; omega⟩)) (nodup_range (nodup_range hn1 hn2 (fun b h => (hf1 b h).2) (fun b h => (hf2 b h).1)) hn3 (mem_app (fun b h => by have := (fun b h => (hf1 b h).2) b h; omega) (fun b h => (hf2 b h).2)) (fun b h => (hf3 b h).1)))
end Go.Proofs.YtledjcplbldokaaGreatDoor
