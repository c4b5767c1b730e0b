/- grin.cloneFunc, Clone: a program in new rows. Conditions: lengths. -/
import Derived.Test.YtoidogfnjpmceaaDoorGc3
import Derived.Deep.RegionHeld3
import Derived.Deep.DrawnRows
namespace Go.Proofs.YtoidogfnjpmceaaDoor
open Go.ChangeShapes Go.WideShapes Go.ChangeAt Go.RowKit
attribute [local go_sem ↓] Go.wp_at_zero Go.wp_at_succ

set_option maxRecDepth 100000 in
set_option maxHeartbeats 8000000 in
theorem cloneFunc_any (x : Fn) (hok : okFn x) (v : Value) (w : World) (hv : FnV w x v) : Calls Tryd.prog 41 #[v] w (MadeC w (FnQ x)) := by
  obtain ⟨a1, n1, c1, a2, n2, c2, rfl, hnm, hwf, hs, hs2⟩ := hv
  have HS := Lib.hid hs
  have HS2 := Lib.hid hs2
  have HW := Lib.hid (And.intro hnm hwf)
  have HOK : Hid (x.params.length ≤ 1000000 ∧ x.steps.cost ≤ 1000000) := Lib.hid hok
  have HLA : Hid (x.params.length ≤ 1000000) := Lib.hid hok.1
  have HCX : Hid (∀ w', Below w.heap.size w w' → Calls Tryd.prog 64 #[.slice a2 n2 c2, .func (.func 65) #[] #[]] w' (MadeC w' fun q v' F => RowO 29 9 q v' x.steps.len F (fun xs F => StO q x.steps xs F))) := Lib.hid fun w' hb => cloneAllSt_any 1000000 (cloneStep_any 1000000 (Nat.le_refl _)) x.steps HOK.out.2 HW.out.2 (by have := St.len_cost HW.out.2; have := HOK.out; omega) _ w' (HS2.out.mono hb.size fun _ _ p q => StIn.below hb p q)
  have HPX : Hid (TxO x.params (x.params.map .string) []) := Lib.hid ⟨rfl, (fun i hi => by
    obtain ⟨-, _, _, e, -, hsx⟩ := hs
    obtain ⟨b, o, -, -, ht⟩ := hsx (by omega)
    exact (ht i hi).2), rfl⟩
  clear hs hs2 hok hnm hwf
  have HB0 : Hid (Below w.heap.size w ((w.alloc (.cells #[.string x.nm, .slice a1 n1 c1, .slice a2 n2 c2] 42)).alloc (.cells #[.string ⟨#[]⟩, .slice none 0 0, .slice none 0 0] 42))) := Lib.hid (((Below.refl _ w).alloc (Nat.le_refl _) _).alloc (by simp) _)
  have hsz : w.heap.size + 1 < ((w.alloc (.cells #[.string x.nm, .slice a1 n1 c1, .slice a2 n2 c2] 42)).alloc (.cells #[.string ⟨#[]⟩, .slice none 0 0, .slice none 0 0] 42)).heap.size := by simp <;> omega
  have HSZ := Lib.hid hsz
  have RA : Hid (((w.alloc (.cells #[.string x.nm, .slice a1 n1 c1, .slice a2 n2 c2] 42)).alloc (.cells #[.string ⟨#[]⟩, .slice none 0 0, .slice none 0 0] 42)).heap[w.heap.size]? = some (.cells #[.string x.nm, .slice a1 n1 c1, .slice a2 n2 c2] 42)) := Lib.hid ((Below.heap_alloc (w.alloc (.cells #[.string x.nm, .slice a1 n1 c1, .slice a2 n2 c2] 42)) _ w.heap.size (by simp)).trans (heap_alloc_new w _))
  have RZ : Hid (((w.alloc (.cells #[.string x.nm, .slice a1 n1 c1, .slice a2 n2 c2] 42)).alloc (.cells #[.string ⟨#[]⟩, .slice none 0 0, .slice none 0 0] 42)).heap[w.heap.size + 1]? = some (.cells #[.string ⟨#[]⟩, .slice none 0 0, .slice none 0 0] 42)) := Lib.hid (by have := heap_alloc_new (w.alloc (.cells #[.string x.nm, .slice a1 n1 c1, .slice a2 n2 c2] 42)) (.cells #[.string ⟨#[]⟩, .slice none 0 0, .slice none 0 0] 42); rw [show (w.alloc (.cells #[.string x.nm, .slice a1 n1 c1, .slice a2 n2 c2] 42)).heap.size = w.heap.size + 1 by simp] at this; exact this)
  have FA : Hid (∀ j, ((w.alloc (.cells #[.string x.nm, .slice a1 n1 c1, .slice a2 n2 c2] 42)).alloc (.cells #[.string ⟨#[]⟩, .slice none 0 0, .slice none 0 0] 42)).frozen? ⟨w.heap.size, j, none⟩ = false) := Lib.hid fun j => by
    rw [((Below.refl _ (w.alloc (.cells #[.string x.nm, .slice a1 n1 c1, .slice a2 n2 c2] 42))).alloc (Nat.le_refl _) (.cells #[.string ⟨#[]⟩, .slice none 0 0, .slice none 0 0] 42)).frozen (p := ⟨w.heap.size, j, none⟩) (by simp)]
    exact World.frozen?_alloc_new _ _ _ _
  have FZ : Hid (∀ j, ((w.alloc (.cells #[.string x.nm, .slice a1 n1 c1, .slice a2 n2 c2] 42)).alloc (.cells #[.string ⟨#[]⟩, .slice none 0 0, .slice none 0 0] 42)).frozen? ⟨w.heap.size + 1, j, none⟩ = false) := Lib.hid fun j => World.frozen?_alloc2_new _ _ _ _
  have A0 : ((w.alloc (.cells #[.string x.nm, .slice a1 n1 c1, .slice a2 n2 c2] 42)).alloc (.cells #[.string ⟨#[]⟩, .slice none 0 0, .slice none 0 0] 42)).cell? ⟨w.heap.size, 0, none⟩ = some (.string x.nm) := (cell_of_row _ w.heap.size 0 _ _ _ RA.out).trans rfl
  have A1 : ((w.alloc (.cells #[.string x.nm, .slice a1 n1 c1, .slice a2 n2 c2] 42)).alloc (.cells #[.string ⟨#[]⟩, .slice none 0 0, .slice none 0 0] 42)).cell? ⟨w.heap.size, 1, none⟩ = some (.slice a1 n1 c1) := (cell_of_row _ w.heap.size 1 _ _ _ RA.out).trans rfl
  have A2 : ((w.alloc (.cells #[.string x.nm, .slice a1 n1 c1, .slice a2 n2 c2] 42)).alloc (.cells #[.string ⟨#[]⟩, .slice none 0 0, .slice none 0 0] 42)).cell? ⟨w.heap.size, 2, none⟩ = some (.slice a2 n2 c2) := (cell_of_row _ w.heap.size 2 _ _ _ RA.out).trans rfl
  have hap := HS.out.mono HB0.out.size fun _ _ p q => TxIn.below HB0.out p q
  obtain ⟨hrn, ao, cp, hse, hcp, hsx⟩ := hap
  injection hse with hse1 hse2 hse3
  subst hse1 hse3
  have HNE := Lib.hid hse2
  have HSX : Hid (0 < n1 → ∃ b o, a1 = some ⟨b, o, none⟩ ∧ b < ((w.alloc (.cells #[.string x.nm, .slice a1 n1 c1, .slice a2 n2 c2] 42)).alloc (.cells #[.string ⟨#[]⟩, .slice none 0 0, .slice none 0 0] 42)).heap.size ∧ TxIn ((w.alloc (.cells #[.string x.nm, .slice a1 n1 c1, .slice a2 n2 c2] 42)).alloc (.cells #[.string ⟨#[]⟩, .slice none 0 0, .slice none 0 0] 42)) x.params b o) := Lib.hid fun h => hsx (Nat.lt_of_lt_of_eq h hse2)
  have HCP := Lib.hid hcp
  have hnl : n1 ≤ 1000000 := Nat.le_trans (Nat.le_of_eq hse2) HLA.out
  have hnb : n1 * 16 ≤ 140737488355328 := by omega
  have hnr : n1 ≤ reach := Nat.le_trans (Nat.le_of_eq hse2) hrn
  obtain ⟨i0, hi, hz0, hz1, hz2⟩ := info_parts infoStr
  have HPP : Hid (TxO x.params (x.params.map .string) []) := Lib.hid HPX.out
  clear hrn hse2 hcp hsx hsz
  go_enter Tryd.func41, Tryd.ntmps41
  go_wp2_with (first
    | (at_builtin; refine wpList_append_tx _ rfl _ _ 40 rfl 9 i0 (.string ⟨#[]⟩) 16 Tryd.underlying40 hi hz0 hz1 hz2 rfl rfl a1 x.params n1 c1 rfl HNE.out HSX.out HCP.out hnb hnl ?_
       intro v4 w4 oA4 hz4 gr4
       obtain ⟨Fv, av, mv, cv, rfl, hRO, hfr, hnd⟩ := rowO_app oA4 hz4 hnr HPP.out
       have RA4 : Hid (w4.heap[w.heap.size]? = some (.cells #[.string x.nm, .slice a1 n1 c1, .slice a2 n2 c2] 42)) := Lib.hid ((gr4.block _ (Nat.lt_of_succ_lt HSZ.out) (by simp)).trans RA.out)
       have RZ4 : Hid (w4.heap[w.heap.size + 1]? = some (.cells #[.string ⟨#[]⟩, .slice none 0 0, .slice none 0 0] 42)) := Lib.hid ((gr4.block _ HSZ.out (by simp)).trans RZ.out)
       have FA4 : Hid (∀ j, w4.frozen? ⟨w.heap.size, j, none⟩ = false) := Lib.hid fun j => (World.frozen?_of_block (a := ⟨w.heap.size, j, none⟩) (gr4.block _ (Nat.lt_of_succ_lt HSZ.out) (by simp))).trans (FA.out j)
       have FZ4 : Hid (∀ j, w4.frozen? ⟨w.heap.size + 1, j, none⟩ = false) := Lib.hid fun j => (World.frozen?_of_block (a := ⟨w.heap.size + 1, j, none⟩) (gr4.block _ HSZ.out (by simp))).trans (FZ.out j)
       have HB4 : Hid (Below w.heap.size w w4) := Lib.hid (HB0.out.grown gr4 HB0.out.size (fun k hk => by cases hk))
       have HSG : Hid (((w.alloc (.cells #[.string x.nm, .slice a1 n1 c1, .slice a2 n2 c2] 42)).alloc (.cells #[.string ⟨#[]⟩, .slice none 0 0, .slice none 0 0] 42)).heap.size ≤ w4.heap.size) := Lib.hid gr4.size
       have HRO := Lib.hid hRO
       have HFR := Lib.hid hfr
       have HND := Lib.hid hnd
       have A0 : w4.cell? ⟨w.heap.size, 0, none⟩ = some (.string x.nm) := (cell_of_row _ w.heap.size 0 _ _ _ RA4.out).trans rfl
       have A1 : w4.cell? ⟨w.heap.size, 1, none⟩ = some (.slice a1 n1 c1) := (cell_of_row _ w.heap.size 1 _ _ _ RA4.out).trans rfl
       have A2 : w4.cell? ⟨w.heap.size, 2, none⟩ = some (.slice a2 n2 c2) := (cell_of_row _ w.heap.size 2 _ _ _ RA4.out).trans rfl
       have AF := FA4.out 1
       clear oA4 hz4 gr4 hRO hfr hnd)
  )
  refine (HCX.out _ (HB4.out.setCell (p := ⟨w.heap.size, 1, none⟩) (Nat.le_refl _) _)).mono ?_
  rintro e u2 ⟨vz, Fz, rfl, hQz, hbz, hfz, hnz⟩
  obtain ⟨mz, az, cz, rfl, hQz⟩ := row_open hQz
  have hss : (w4.setCell ⟨w.heap.size, 1, none⟩ (.slice av mv cv)).heap.size = w4.heap.size := set_size _ _ _
  have RA5 : u2.heap[w.heap.size]? = some (.cells #[.string x.nm, .slice av mv cv, .slice a2 n2 c2] 42) := (hbz.block _ (by rw [hss]; have := HSZ.out; have := HSG.out; omega)).trans (row_set _ RA4.out)
  have RZ5 : u2.heap[w.heap.size + 1]? = some (.cells #[.string ⟨#[]⟩, .slice none 0 0, .slice none 0 0] 42) := (hbz.block _ (by rw [hss]; have := HSZ.out; have := HSG.out; omega)).trans ((Below.heap_setCell _ _ _ _ (by show w.heap.size + 1 ≠ w.heap.size; omega)).trans RZ4.out)
  have FA5 : ∀ j, u2.frozen? ⟨w.heap.size, j, none⟩ = false := fun j => (hbz.frozen (p := ⟨w.heap.size, j, none⟩) (by show w.heap.size < _; rw [hss]; have := HSZ.out; have := HSG.out; omega)).trans ((World.frozen?_setCell _ _ _ _).trans (FA4.out j))
  have FZ5 : ∀ j, u2.frozen? ⟨w.heap.size + 1, j, none⟩ = false := fun j => (hbz.frozen (p := ⟨w.heap.size + 1, j, none⟩) (by show w.heap.size + 1 < _; rw [hss]; have := HSZ.out; have := HSG.out; omega)).trans ((World.frozen?_setCell _ _ _ _).trans (FZ4.out j))
  have HSS : Hid (w4.heap.size ≤ u2.heap.size) := Lib.hid (by rw [← hss]; exact hbz.size)
  clear A0 A1 A2 AF
  have A0 : u2.cell? ⟨w.heap.size, 0, none⟩ = some (.string x.nm) := (cell_of_row _ w.heap.size 0 _ _ _ RA5).trans rfl
  have A1 : u2.cell? ⟨w.heap.size, 1, none⟩ = some (.slice av mv cv) := (cell_of_row _ w.heap.size 1 _ _ _ RA5).trans rfl
  have A2 : u2.cell? ⟨w.heap.size, 2, none⟩ = some (.slice a2 n2 c2) := (cell_of_row _ w.heap.size 2 _ _ _ RA5).trans rfl
  have AF := FA5 2
  have Z0 : u2.cell? ⟨w.heap.size + 1, 0, none⟩ = some (.string ⟨#[]⟩) := (cell_of_row _ (w.heap.size + 1) 0 _ _ _ RZ5).trans rfl
  have ZF0 := FZ5 0
  have Z1 : u2.cell? ⟨w.heap.size + 1, 1, none⟩ = some (.slice none 0 0) := (cell_of_row _ (w.heap.size + 1) 1 _ _ _ RZ5).trans rfl
  have ZF1 := FZ5 1
  have Z2 : u2.cell? ⟨w.heap.size + 1, 2, none⟩ = some (.slice none 0 0) := (cell_of_row _ (w.heap.size + 1) 2 _ _ _ RZ5).trans rfl
  have ZF2 := FZ5 2
  have RZ5 := Lib.hid RZ5
  have HBU : Hid (Below w.heap.size w u2) := Lib.hid ((HB4.out.setCell (p := ⟨w.heap.size, 1, none⟩) (Nat.le_refl _) _).trans (hbz.mono (HB4.out.setCell (p := ⟨w.heap.size, 1, none⟩) (Nat.le_refl _) _).size))
  have HQZ := Lib.hid hQz
  have HBZ := Lib.hid hbz
  have HFZ := Lib.hid hfz
  have HNZ := Lib.hid hnz
  clear RA5 FA5 FZ5 hQz hbz hfz hnz hss
  go_wp2_with fail
  have hr0 : (u2.setCell ⟨w.heap.size, 2, none⟩ (.slice az mz cz)).heap[w.heap.size + 1]? = some (.cells #[.string ⟨#[]⟩, .slice none 0 0, .slice none 0 0] 42) := (Below.heap_setCell _ _ _ _ (by show w.heap.size + 1 ≠ w.heap.size; omega)).trans RZ5.out
  have hr1 : (World.heap _)[w.heap.size + 1]? = some (.cells #[.string x.nm, .slice none 0 0, .slice none 0 0] 42 (0, 0)) := row_set (.string x.nm) hr0 (i := 0)
  clear hr0
  have hr2 : (World.heap _)[w.heap.size + 1]? = some (.cells #[.string x.nm, .slice av mv cv, .slice none 0 0] 42 (0, 0)) := row_set (.slice av mv cv) hr1 (i := 1)
  clear hr1
  have hr3 : (World.heap _)[w.heap.size + 1]? = some (.cells #[.string x.nm, .slice av mv cv, .slice az mz cz] 42 (0, 0)) := row_set (.slice az mz cz) hr2 (i := 2)
  clear hr2
  have hrow := hr3
  refine bodyPost_ret (results_row1 rfl _ _ (w.heap.size + 1) 42 _ (0, 0) _ rfl hrow Tryd.underlying42 rfl (sizeFn _ _ _)) rfl ?_
  have hsF : ((((u2.setCell ⟨w.heap.size, 2, none⟩ (.slice az mz cz)).setCell ⟨w.heap.size + 1, 0, none⟩ (.string x.nm)).setCell ⟨w.heap.size + 1, 1, none⟩ (.slice av mv cv)).setCell ⟨w.heap.size + 1, 2, none⟩ (.slice az mz cz)).heap.size = u2.heap.size := by simp only [set_size]
  have hfar : ∀ b, w.heap.size + 2 ≤ b → ((((u2.setCell ⟨w.heap.size, 2, none⟩ (.slice az mz cz)).setCell ⟨w.heap.size + 1, 0, none⟩ (.string x.nm)).setCell ⟨w.heap.size + 1, 1, none⟩ (.slice av mv cv)).setCell ⟨w.heap.size + 1, 2, none⟩ (.slice az mz cz)).heap[b]? = u2.heap[b]? := fun b hb => by
    refine (Below.heap_setCell _ _ _ _ (by simp; omega)).trans ?_
    refine (Below.heap_setCell _ _ _ _ (by simp; omega)).trans ?_
    refine (Below.heap_setCell _ _ _ _ (by simp; omega)).trans ?_
    refine (Below.heap_setCell _ _ _ _ (by simp; omega)).trans ?_
    rfl
  have hs1 := HSZ.out
  have hs3 := HSS.out
  have hs2 := HSG.out
  have hss : (w4.setCell ⟨w.heap.size, 1, none⟩ (.slice av mv cv)).heap.size = w4.heap.size := set_size _ _ _
  have KF1 : KeepF w4 ((((u2.setCell ⟨w.heap.size, 2, none⟩ (.slice az mz cz)).setCell ⟨w.heap.size + 1, 0, none⟩ (.string x.nm)).setCell ⟨w.heap.size + 1, 1, none⟩ (.slice av mv cv)).setCell ⟨w.heap.size + 1, 2, none⟩ (.slice az mz cz)) Fv := ⟨by rw [hsF]; exact hs3, fun b hb => by
    have h1 := HFR.out b hb
    exact (hfar b (by omega)).trans ((HBZ.out.block b (by rw [hss]; omega)).trans (Below.heap_setCell _ _ _ _ (by show b ≠ w.heap.size; omega)))⟩
  have hfz := HFZ.out
  rw [hss] at hfz
  have KF2 : KeepF u2 ((((u2.setCell ⟨w.heap.size, 2, none⟩ (.slice az mz cz)).setCell ⟨w.heap.size + 1, 0, none⟩ (.string x.nm)).setCell ⟨w.heap.size + 1, 1, none⟩ (.slice av mv cv)).setCell ⟨w.heap.size + 1, 2, none⟩ (.slice az mz cz)) Fz := ⟨by rw [hsF]; exact Nat.le_refl _, fun b hb => hfar b (by have := hfz b hb; omega)⟩
  exact madeC_mk (F := Fv ++ Fz) rfl (⟨_, _, _, _, _, _, rfl, ⟨_, _, [], Fv, Fz, [], rfl, by simp, HW.out.1, HW.out.2, by rw [← HNE.out]; exact HRO.out.keep KF1 fun _ _ _ hp => hp, HQZ.out.keep KF2 fun _ _ hs hp => StO.keep hp (KF2.sub hs), rfl, rfl⟩⟩) ((((HBU.out.setCell (p := ⟨w.heap.size, 2, none⟩) (Nat.le_refl _) (.slice az mz cz)).setCell (p := ⟨w.heap.size + 1, 0, none⟩) (by simp) (.string x.nm)).setCell (p := ⟨w.heap.size + 1, 1, none⟩) (by simp) (.slice av mv cv)).setCell (p := ⟨w.heap.size + 1, 2, none⟩) (by simp) (.slice az mz cz)) (mem_app (fun b h => by have := HFR.out b h; rw [hsF]; omega) (fun b h => by have := hfz b h; rw [hsF]; omega)) (nodup_range HND.out HNZ.out (fun b h => (HFR.out b h).2) (fun b h => (hfz b h).1))

theorem sizePr (x0 : Value) : (Tryd.prog.info? 48).map (·.size) = some (#[x0] : Array Value).size := by
  show _ = some 1
  kernel_rfl
/-- A program in new rows. -/
def PrQ (fs : List Fn) (w : World) (v : Value) (F : List Nat) : Prop := ∃ a n c, v = .agg #[.slice a n c] ∧ RowO 42 3 w (.slice a n c) fs.length F (fun xs F => FnO w fs xs F)
set_option maxRecDepth 100000 in
set_option maxHeartbeats 8000000 in
theorem Clone_any (fs : List Fn) (v : Value) (w : World) (h : SlAt w v fs.length fun b o => FnIn w fs b o) (hok : ∀ x ∈ fs, okFn x) (hlen : fs.length ≤ 1000000) (hm : stCost fs ≤ 1000000) (ht : ∀ j (h : j < fs.length), fs[j].steps.tall + 1 ≤ 131072) :
    Calls Tryd.prog 19 #[.agg #[v]] w (MadeC w (PrQ fs)) := by
  obtain ⟨n1, a1, c1, -, rfl⟩ := slv_form h
  have HS := Lib.hid h
  have HBD : Hid (∀ w', Below w.heap.size w w' → Calls Tryd.prog 39 #[.slice a1 n1 c1] w' (Grew (.bool true) w')) := Lib.hid fun w' hb => isBounded_any fs _ w' (HS.out.mono hb.size fun _ _ p q => FnIn.below hb p q) hm ht
  have HCX : Hid (∀ w', Below w.heap.size w w' → Calls Tryd.prog 40 #[.slice a1 n1 c1, .func (.func 41) #[] #[]] w' (MadeC w' fun q v' F => RowO 42 3 q v' fs.length F (fun xs F => FnO q fs xs F))) := Lib.hid fun w' hb => cloneAllFn_any cloneFunc_any fs hok hlen _ w' (HS.out.mono hb.size fun _ _ p q => FnIn.below hb p q)
  clear h hok hlen hm ht
  have HB0 : Hid (Below w.heap.size w ((w.alloc (.cells #[.slice a1 n1 c1] 48)).alloc (.cells #[.slice none 0 0] 48))) := Lib.hid (((Below.refl _ w).alloc (Nat.le_refl _) _).alloc (by simp) _)
  have HSZ : Hid (w.heap.size + 1 < ((w.alloc (.cells #[.slice a1 n1 c1] 48)).alloc (.cells #[.slice none 0 0] 48)).heap.size) := Lib.hid (by simp <;> omega)
  have RA : Hid (((w.alloc (.cells #[.slice a1 n1 c1] 48)).alloc (.cells #[.slice none 0 0] 48)).heap[w.heap.size]? = some (.cells #[.slice a1 n1 c1] 48)) := Lib.hid ((Below.heap_alloc (w.alloc (.cells #[.slice a1 n1 c1] 48)) _ w.heap.size (by simp)).trans (heap_alloc_new w _))
  have RZ : Hid (((w.alloc (.cells #[.slice a1 n1 c1] 48)).alloc (.cells #[.slice none 0 0] 48)).heap[w.heap.size + 1]? = some (.cells #[.slice none 0 0] 48)) := Lib.hid (by have := heap_alloc_new (w.alloc (.cells #[.slice a1 n1 c1] 48)) (.cells #[.slice none 0 0] 48); rw [show (w.alloc (.cells #[.slice a1 n1 c1] 48)).heap.size = w.heap.size + 1 by simp] at this; exact this)
  have FZ : Hid (∀ j, ((w.alloc (.cells #[.slice a1 n1 c1] 48)).alloc (.cells #[.slice none 0 0] 48)).frozen? ⟨w.heap.size + 1, j, none⟩ = false) := Lib.hid fun j => World.frozen?_alloc2_new _ _ _ _
  have A0 : ((w.alloc (.cells #[.slice a1 n1 c1] 48)).alloc (.cells #[.slice none 0 0] 48)).cell? ⟨w.heap.size, 0, none⟩ = some (.slice a1 n1 c1) := (cell_of_row _ w.heap.size 0 _ _ _ RA.out).trans rfl
  go_enter Tryd.func19, Tryd.ntmps19
  go_wp2_with fail
  refine (HBD.out _ HB0.out).mono ?_
  rintro e w2 ⟨rfl, hb2⟩
  have HB2 := Lib.hid hb2
  clear A0 hb2 HBD
  have A0 : w2.cell? ⟨w.heap.size, 0, none⟩ = some (.slice a1 n1 c1) := (HB2.out.cell (p := ⟨w.heap.size, 0, none⟩) (Nat.lt_of_succ_lt HSZ.out)).trans ((cell_of_row _ w.heap.size 0 _ _ _ RA.out).trans rfl)
  have HBW : Hid (Below w.heap.size w w2) := Lib.hid (HB0.out.trans (HB2.out.mono HB0.out.size))
  go_wp2_with fail
  refine (HCX.out _ HBW.out).mono ?_
  rintro e u2 ⟨vz, Fz, rfl, hQz, hbz, hfz, hnz⟩
  obtain ⟨mz, az, cz, rfl, hQz⟩ := row_open hQz
  have hs2 : w.heap.size + 1 < w2.heap.size := Nat.lt_of_lt_of_le HSZ.out HB2.out.size
  have RZ5 : u2.heap[w.heap.size + 1]? = some (.cells #[.slice none 0 0] 48) := (hbz.block _ hs2).trans ((HB2.out.block _ HSZ.out).trans RZ.out)
  have ZF0 : u2.frozen? ⟨w.heap.size + 1, 0, none⟩ = false := (hbz.frozen (p := ⟨w.heap.size + 1, 0, none⟩) hs2).trans ((HB2.out.frozen (p := ⟨w.heap.size + 1, 0, none⟩) HSZ.out).trans (FZ.out 0))
  have Z0 : u2.cell? ⟨w.heap.size + 1, 0, none⟩ = some (.slice none 0 0) := (cell_of_row _ (w.heap.size + 1) 0 _ _ _ RZ5).trans rfl
  have RZ5 := Lib.hid RZ5
  have HBU : Hid (Below w.heap.size w u2) := Lib.hid (HBW.out.trans (hbz.mono HBW.out.size))
  have HQZ := Lib.hid hQz
  have HFZ := Lib.hid hfz
  have HNZ := Lib.hid hnz
  have HSS := Lib.hid hs2
  clear hQz hbz hfz hnz hs2
  go_wp2_with fail
  have hrow : (World.heap _)[w.heap.size + 1]? = some (.cells #[.slice az mz cz] 48 (0, 0)) := row_set (.slice az mz cz) RZ5.out (i := 0)
  refine bodyPost_ret (results_row1 rfl _ _ (w.heap.size + 1) 48 _ (0, 0) _ rfl hrow Tryd.underlying48 rfl (sizePr _)) rfl ?_
  have hsF : (u2.setCell ⟨w.heap.size + 1, 0, none⟩ (.slice az mz cz)).heap.size = u2.heap.size := set_size _ _ _
  have hs3 := HSS.out
  have KF2 : KeepF u2 (u2.setCell ⟨w.heap.size + 1, 0, none⟩ (.slice az mz cz)) Fz := ⟨by rw [hsF]; exact Nat.le_refl _, fun b hb => Below.heap_setCell _ _ _ _ (by show b ≠ w.heap.size + 1; have := (HFZ.out b hb).1; omega)⟩
  exact madeC_mk (F := Fz) rfl ⟨_, _, _, rfl, HQZ.out.keep KF2 fun _ _ hs hp => FnO.keep hp (KF2.sub hs)⟩ (HBU.out.setCell (p := ⟨w.heap.size + 1, 0, none⟩) (by simp) (.slice az mz cz)) (fun b h => by have := HFZ.out b h; rw [hsF]; omega) HNZ.out
/-- A made program is read as one that came in. -/
theorem fns_of_rows {w : World} {fs : List Fn} {v : Value} {F : List Nat} (h : RowO 42 3 w v fs.length F (fun xs F => FnO w fs xs F)) : SlAt w v fs.length fun b o => FnIn w fs b o :=
  h.in fun _ _ _ hp hc => FnO.in hp hc
theorem fns_ok {fs : List Fn} {most : Int} (h : FnsP fs most) (hm : most ≤ 1000000) : (∀ x ∈ fs, okFn x) ∧ fs.length ≤ 1000000 ∧ stCost fs ≤ 1000000 ∧ ∀ j (h : j < fs.length), fs[j].steps.tall + 1 ≤ 131072 := by
  have hc := h.cost
  have h1 : ∀ (l : List Fn), stCost l ≤ fnCost l ∧ ∀ x ∈ l, x.params.length ≤ fnCost l ∧ x.steps.cost ≤ fnCost l := by
    intro l
    induction l with
    | nil => exact ⟨Nat.le_refl _, fun x h => by simp at h⟩
    | cons y r ih =>
      refine ⟨by simp only [stCost, fnCost]; have := ih.1; omega, fun x hx => ?_⟩
      simp only [fnCost]
      rcases List.mem_cons.1 hx with rfl | hx
      · omega
      · have := ih.2 x hx; omega
  obtain ⟨h2, h3⟩ := h1 fs
  exact ⟨fun x hx => ⟨by have := h3 x hx; omega, by have := h3 x hx; omega⟩, by have := h.length; omega, by omega, fun j hj => by have := (h.brief j hj).2.2.1; omega⟩
end Go.Proofs.YtoidogfnjpmceaaDoor
