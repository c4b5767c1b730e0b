/- GrinOwn: the law answers true. Conditions: first answers true. -/
import Derived.Test.YtoidogfnjpmceaaDoorGo1
import Derived.Test.YtoidogfnjpmceaaDoorGe5
import Derived.Test.YtoidogfnjpmceaaDoorRv3
import Derived.Test.YtoidogfnjpmceaaDoorNumber
import Derived.Deep.RegionWith
import Derived.Deep.RegionHeld3
import Derived.Deep.DrawnRows
namespace Go.Proofs.YtoidogfnjpmceaaDoor
open Go.ChangeShapes Go.WideShapes Go.ChangeAt Go.RowKit
attribute [local go_sem ↓] Go.wp_at_zero Go.wp_at_succ

theorem fld_run (a : Option Addr) (n c : Nat) (w : World) : Sem.run Tryd.prog (Instr.field 48 (.agg #[.slice a n c]) 0) w = .ok (.slice a n c) w := by
  simp [Instr.field, run_underlying Tryd.underlying48, part, asAgg]
theorem ok_re {x y : Fn} {r : List Fn} {m : Nat} (h : stCost (x :: r) ≤ m ∧ ∀ j (h : j < (x :: r).length), (x :: r)[j].steps.tall + 1 ≤ 131072) (hc : y.steps.cost = x.steps.cost) (ht : y.steps.tall = x.steps.tall) : stCost (y :: r) ≤ m ∧ ∀ j (h : j < (y :: r).length), (y :: r)[j].steps.tall + 1 ≤ 131072 := by
  refine ⟨by have := h.1; simp only [stCost] at this ⊢; omega, fun j hj => ?_⟩
  cases j with
  | zero => have := h.2 0 (by simp); simp only [List.getElem_cons_zero] at this ⊢; omega
  | succ j => exact h.2 (j + 1) (by simpa using hj)
set_option maxRecDepth 100000 in
set_option maxHeartbeats 8000000 in
theorem grinOwn_core (fs : List Fn) (v : Value) (what : Int) (w : World) (hv : SlAt w v fs.length fun b o => FnIn w fs b o)
    (H0 : Calls Tryd.prog 7 #[] w (Grew (.bool true) w)) :
    Calls Tryd.prog 4 #[v, .int .i64 what] w (Grew (.bool true) w) := by
  have HV := Lib.hid hv
  obtain ⟨hlen, ao, cap, rfl, -, hs⟩ := hv
  obtain ⟨n, hn⟩ : ∃ n, n = fs.length := ⟨_, rfl⟩
  have HN := Lib.hid hn
  have HS := Lib.hid hs
  rw [← hn] at hlen HV HS ⊢
  have hx : (n : Int) ≤ 140737488355328 := by have : n ≤ 140737488355328 := hlen; omega
  have H0 := Lib.hid H0
  clear hs hlen hn
  go_enter Tryd.func4, Tryd.ntmps4
  go_wp2_with fail
  refine H0.out.mono ?_
  rintro e w1 ⟨rfl, hb1⟩
  have HB1 := Lib.hid hb1
  have HC := Lib.hid (funcs_any fs (.slice ao n cap) 300 w1 (by rw [← HN.out]; exact HV.out.mono hb1.size fun _ _ p q => FnIn.below hb1 p q) (by omega) (by omega))
  clear hb1 H0
  go_wp2_with fail
  refine HC.out.mono ?_
  rintro e w2 ⟨sm, rfl, hb2, hsm⟩
  have HB2 : Hid (Below w.heap.size w w2) := Lib.hid (HB1.out.trans (hb2.mono HB1.out.size))
  clear hb2 HC HB1
  cases sm
  · clear hsm
    go_wp2_with fail
    go_ret
    exact ⟨rfl, HB2.out⟩
  · have hfp := hsm rfl
    have HFP := Lib.hid hfp
    have HOK := Lib.hid (fns_ok hfp (by omega))
    clear hsm hfp
    by_cases hz : n = 0
    · have hzi : ((n : Int) == 0) = true := by simp [hz]
      go_wp2_with fail
      go_ret
      exact ⟨rfl, HB2.out⟩
    · have hzi : ((n : Int) == 0) = false := by simp; omega
      have hpos : (0 : Int) < (n : Int) := by omega
      obtain ⟨x, r, rfl⟩ : ∃ x r, fs = x :: r := by
        cases fs with
        | nil => exfalso; exact hz (by simpa using HN.out)
        | cons x r => exact ⟨x, r, rfl⟩
      obtain ⟨b, o, rfl, hbw, ht⟩ := HS.out (by omega)
      obtain ⟨-, -, -, ⟨v2, x2, hwf, s2⟩⟩ := ht 0 (by simp)
      simp only [List.getElem_cons_zero, Nat.zero_mul, Nat.add_zero] at x2 hwf s2
      obtain ⟨n2, a2, c2, hn2, rfl⟩ := slv_form s2
      have y2 := (HB2.out.cell (p := ⟨b, o + 2, none⟩) hbw).trans x2
      have HN2 := Lib.hid hn2
      clear ht x2 s2 hn2
      by_cases hz2 : n2 = 0
      · have hzi2 : ((n2 : Int) == 0) = true := by simp [hz2]
        go_wp2_with fail
        go_ret
        exact ⟨rfl, HB2.out⟩
      · have hzi2 : ((n2 : Int) == 0) = false := by simp; omega
        obtain ⟨nm, params, steps⟩ := x
        simp only at HN2 hwf
        cases steps with
        | nil => exfalso; exact hz2 (by simpa [St.len] using HN2.out)
        | br => exact absurd hwf.1 (by simp)
        | step op to sn t vals alts num rs =>
        have HN2b : Hid (n2 = rs.len + 1) := Lib.hid (by have := HN2.out; simpa [St.len] using this)
        have HC := Lib.hid (Clone_any (⟨nm, params, .step op to sn t vals alts num rs⟩ :: r) (.slice (some ⟨b, o, none⟩) n cap) (w2.alloc (.cells #[.slice (some ⟨b, o, none⟩) n cap] 48)) (by rw [← HN.out]; exact HV.out.mono (Nat.le_trans HB2.out.size (by simp)) fun _ _ p q => FnIn.below (HB2.out.alloc HB2.out.size _) p q) HOK.out.1 HOK.out.2.1 HOK.out.2.2.1 HOK.out.2.2.2)
        clear HN2 hwf
        go_wp2_with fail
        refine HC.out.mono ?_
        rintro e w3 ⟨vz, Fz, rfl, ⟨az, nz, cz, rfl, hR⟩, hb3, hfr, hnd⟩
        rw [← HN.out] at hR
        obtain ⟨g, cg, g2, n3, cap2, v1, u1, u2, xs, ys, Fp, Fv, Fa, Fs, Fr, hsl, rfl, hda⟩ := fn_opened hR (by omega)
        injection hsl with j1 j2 j3
        subst j1 j2 j3
        have j4 : n3 = n2 := by rw [hda.eq2]; exact HN2b.out.symm
        subst j4
        have hq0 : SlAt w3 (.slice (some ⟨g, 0, none⟩) nz cz) (⟨nm, params, .step op to sn t vals alts num rs⟩ :: r : List Fn).length fun b o => FnIn w3 (⟨nm, params, .step op to sn t vals alts num rs⟩ :: r) b o := by rw [← HN.out]; exact hR.in fun _ _ _ hp hc => FnO.in hp hc
        have HND := Lib.hid hnd
        have HFR := Lib.hid hfr
        have HDA := Lib.hid hda
        have hszx : w2.heap.size < (w2.alloc (.cells #[.slice (some ⟨b, o, none⟩) nz cap] 48)).heap.size := by simp
        have HB3 : Hid (Below w.heap.size w w3) := Lib.hid ((HB2.out.alloc HB2.out.size (.cells #[.slice (some ⟨b, o, none⟩) nz cap] 48)).trans (hb3.mono (by have := HB2.out.size; simp; omega)))
        have q0 : w3.cell? ⟨w2.heap.size, 0, none⟩ = some (.slice (some ⟨b, o, none⟩) nz cap) := (hb3.cell (p := ⟨w2.heap.size, 0, none⟩) hszx).trans ((cell_of_row _ w2.heap.size 0 _ _ _ (heap_alloc_new w2 _)).trans rfl)
        have hlt3 : w2.heap.size < w3.heap.size := World.block_lt_of_cell? _ _ q0
        have hba := (Below.refl _ w3).alloc (Nat.le_refl _) (.cells #[.slice (some ⟨g, 0, none⟩) nz cz] 48)
        have r0 := (hba.cell (p := ⟨w2.heap.size, 0, none⟩) hlt3).trans q0
        have t0 : (w3.alloc (.cells #[.slice (some ⟨g, 0, none⟩) nz cz] 48)).cell? ⟨w3.heap.size, 0, none⟩ = some (.slice (some ⟨g, 0, none⟩) nz cz) := (cell_of_row _ w3.heap.size 0 _ _ _ (heap_alloc_new w3 _)).trans rfl
        have HC5 : Hid (Calls Tryd.prog 20 #[(.agg #[.slice (some ⟨g, 0, none⟩) nz cz]), (.agg #[.slice (some ⟨b, o, none⟩) nz cap])] (w3.alloc (.cells #[.slice (some ⟨g, 0, none⟩) nz cz] 48)) (Grew (.bool true) (w3.alloc (.cells #[.slice (some ⟨g, 0, none⟩) nz cz] 48)))) := Lib.hid (by
          have h := Same_any (⟨nm, params, .step op to sn t vals alts num rs⟩ :: r) (⟨nm, params, .step op to sn t vals alts num rs⟩ :: r) _ _ (w3.alloc (.cells #[.slice (some ⟨g, 0, none⟩) nz cz] 48)) (hq0.mono hba.size fun _ _ p q => FnIn.below hba p q) (by rw [← HN.out]; exact HV.out.mono (Nat.le_trans HB3.out.size hba.size) fun _ _ p q => FnIn.below (HB3.out.trans (hba.mono HB3.out.size)) p q) HOK.out.2.2.1 HOK.out.2.2.2
          rw [fnEq_refl] at h
          exact h)
        have HBA := Lib.hid hba
        have hfr2 : (w2.alloc (.cells #[.slice (some ⟨b, o, none⟩) nz cap] 48)).heap.size ≤ g ∧ g < w3.heap.size := hfr g (by simp)
        have hfr3 : (w2.alloc (.cells #[.slice (some ⟨b, o, none⟩) nz cap] 48)).heap.size ≤ g2 ∧ g2 < w3.heap.size := hfr g2 (by simp)
        have hgx : w2.heap.size < g := by have := hfr2.1; omega
        have hgx2 : w2.heap.size < g2 := by have := hfr3.1; omega
        have hgy : g < w3.heap.size := hfr2.2
        have hgy2 : g2 < w3.heap.size := hfr3.2
        have HSX := Lib.hid hszx
        clear hR hnd hfr hda hq0 hb3 q0 hba HC hfr2 hfr3 hszx y2
        go_wp2_with fail
        refine HC5.out.mono ?_
        rintro e w5 ⟨rfl, hb5⟩
        have s0 := (hb5.cell (p := ⟨w2.heap.size, 0, none⟩) (World.block_lt_of_cell? _ _ r0)).trans r0
        have t0 := (hb5.cell (p := ⟨w3.heap.size, 0, none⟩) (World.block_lt_of_cell? _ _ t0)).trans t0
        have HB5 : Hid (Below w3.heap.size w3 w5) := Lib.hid (HBA.out.trans (hb5.mono HBA.out.size))
        have HBW : Hid (Below w.heap.size w w5) := Lib.hid (HB3.out.trans (HB5.out.mono HB3.out.size))
        have HDB := Lib.hid (HDA.out.keep (show KeepF w3 w5 (rowsOf g g2 Fp Fv Fa Fs Fr) from ⟨HB5.out.size, fun b hb => HB5.out.block b (HFR.out b hb).2⟩))
        obtain ⟨-, -, z0, z1, z2, z3, z4, z5, z6⟩ := HDB.out.cells
        have zf0 := z5 0
        have zf5 := z6 5
        have zf8 := z6 8
        have hpos2 : (0 : Int) < (n3 : Int) := by omega
        have hnn : ((nz : Int) != (nz : Int)) = false := by simp
        clear hb5 r0 HC5 z5 z6
        go_wp2_with fail
        refine (number_any what 4 (by decide) (by decide) w5).mono ?_
        rintro e w6 ⟨rfl, rfl⟩
        obtain ⟨rr, hrr⟩ : ∃ rr, rr = what % 4 := ⟨_, rfl⟩
        rw [← hrr]
        have hr4 : rr = 0 ∨ rr = 1 ∨ rr = 2 ∨ rr = 3 := by omega
        clear hrr
        rcases hr4 with rfl | rfl | rfl | rfl
        · obtain ⟨k, hk⟩ : ∃ k, k = wrap64 (num + 1) := ⟨_, rfl⟩
          have hwn : wf64 k ∧ num ≠ k := by rw [hk, show wrap64 (num + 1) = IntKind.i64.wrap (num + 1) from (by simp only [IntKind.wrap_i64, wrap64])]; exact wrap_next HDB.out.wfs.2.2.2.2.2.2
          go_wp2_with fail
          rw [← hk]
          clear hk
          obtain ⟨fs', hfs'⟩ : ∃ fs', fs' = (⟨nm, params, .step op to sn t vals alts k rs⟩ :: r : List Fn) := ⟨_, rfl⟩
          have HNE : Hid (fnEq (⟨nm, params, .step op to sn t vals alts num rs⟩ :: r) fs' = false ∧ fnEq fs' (⟨nm, params, .step op to sn t vals alts num rs⟩ :: r) = false) := Lib.hid (by rw [hfs']; exact ne_num hwn.2)
          have HFO : Hid (stCost fs' ≤ 1000000 ∧ ∀ j (h : j < fs'.length), fs'[j].steps.tall + 1 ≤ 131072) := Lib.hid (by rw [hfs']; exact ok_re HOK.out.2.2 (by simp [St.cost]) (by simp [St.tall]))
          obtain ⟨wS, hwS⟩ : ∃ wS, wS = w5.setCell ⟨g2, 8, none⟩ (.int .i64 k) := ⟨_, rfl⟩
          rw [← hwS]
          have HQV : Hid (SlAt wS (.slice (some ⟨g, 0, none⟩) nz cz) fs'.length fun b o => FnIn wS fs' b o) := Lib.hid (by
            rw [hwS, hfs']
            have hdf := (HDB.out.setNum HND.out hwn.1).close
            rw [HN.out] at hdf ⊢
            exact fns_of_rows hdf)
          have HBS : Hid (Below w.heap.size w wS) := Lib.hid (by rw [hwS]; exact HBW.out.setCell (p := ⟨g2, 8, none⟩) (by show w.heap.size ≤ g2; have := HB2.out.size; omega) _)
          have s0 : wS.cell? ⟨w2.heap.size, 0, none⟩ = some (.slice (some ⟨b, o, none⟩) nz cap) := by rw [hwS]; exact cell_row (Below.heap_setCell _ _ _ _ (by show w2.heap.size ≠ g2; omega)) s0
          have t0 : wS.cell? ⟨w3.heap.size, 0, none⟩ = some (.slice (some ⟨g, 0, none⟩) nz cz) := by rw [hwS]; exact cell_row (Below.heap_setCell _ _ _ _ (by show w3.heap.size ≠ g2; omega)) t0
          clear hwS hfs'

          have HC1 : Hid (Calls Tryd.prog 20 #[(.agg #[.slice (some ⟨g, 0, none⟩) nz cz]), (.agg #[.slice (some ⟨b, o, none⟩) nz cap])] wS (Grew (.bool false) wS)) := Lib.hid (by
            have h := Same_any fs' (⟨nm, params, .step op to sn t vals alts num rs⟩ :: r) (.slice (some ⟨g, 0, none⟩) nz cz) (.slice (some ⟨b, o, none⟩) nz cap) wS HQV.out (by rw [← HN.out]; exact HV.out.mono HBS.out.size fun _ _ p q => FnIn.below HBS.out p q) HFO.out.1 HFO.out.2
            rw [HNE.out.2] at h
            exact h)
          have HC3 : Hid (∀ w', Below w.heap.size w w' → Calls Tryd.prog 19 #[(.agg #[.slice (some ⟨b, o, none⟩) nz cap])] w' (MadeC w' (PrQ (⟨nm, params, .step op to sn t vals alts num rs⟩ :: r)))) := Lib.hid fun w' hb => Clone_any (⟨nm, params, .step op to sn t vals alts num rs⟩ :: r) _ w' (by rw [← HN.out]; exact HV.out.mono hb.size fun _ _ p q => FnIn.below hb p q) HOK.out.1 HOK.out.2.1 HOK.out.2.2.1 HOK.out.2.2.2
          clear HQV HNE
          go_wp2_with fail
          refine HC1.out.mono ?_
          rintro e x1 ⟨rfl, hx1⟩
          have s0 := (hx1.cell (p := ⟨w2.heap.size, 0, none⟩) (World.block_lt_of_cell? _ _ s0)).trans s0
          have HX1 : Hid (Below w.heap.size w x1) := Lib.hid (HBS.out.trans (hx1.mono HBS.out.size))
          clear hx1 HC1 t0
          go_wp2_with fail
          refine (HC3.out _ HX1.out).mono ?_
          rintro e x3 ⟨vy, Fy, rfl, ⟨ay, ny, cy, rfl, hRy⟩, hx3, hfy, hny⟩
          have HX3 : Hid (Below w.heap.size w x3) := Lib.hid (HX1.out.trans (hx3.mono HX1.out.size))
          have HC4 := Lib.hid (refFuncs_of (⟨nm, params, .step op to sn t vals alts num rs⟩ :: r) _ (.slice (some ⟨b, o, none⟩) nz cap) x3 (fns_of_rows hRy) (by rw [← HN.out]; exact HV.out.mono HX3.out.size fun _ _ p q => FnIn.below HX3.out p q))
          have hfld := fld_run ay ny cy
          clear hx3 hfy hny hRy HC3 s0
          go_wp2_with fail
          refine HC4.out.mono ?_
          rintro e x4 ⟨rfl, hx4⟩
          have HX4 : Hid (Below w.heap.size w x4) := Lib.hid (HX3.out.trans (hx4.mono HX3.out.size))
          clear hx4 HC4
          go_wp2_with fail
          go_ret
          exact ⟨by simp, HX4.out⟩
        · have hds : nm.size ≤ 60 := (HFP.out.brief 0 (by simp)).1
          obtain ⟨sx, hsx⟩ : ∃ sx, sx = nm ++ (⟨#[120]⟩ : ByteArray) := ⟨_, rfl⟩
          have hsz : sx.size = nm.size + 1 := by rw [hsx, ByteArray.size_append]; rfl
          have hsn : nm.toList ≠ sx.toList := fun e => by
            rw [ByteArray.toList_eq, ByteArray.toList_eq] at e
            have e2 : nm.data.toList.length = sx.data.toList.length := by rw [e]
            have e3 : nm.size = sx.size := by rw [Array.length_toList, Array.length_toList] at e2; exact e2
            omega
          have hds2 : (nm.size : Int) ≤ 60 := by omega
          obtain ⟨fs', hfs'⟩ : ∃ fs', fs' = (⟨sx, params, .step op to sn t vals alts num rs⟩ :: r : List Fn) := ⟨_, rfl⟩
          have HNE : Hid (fnEq (⟨nm, params, .step op to sn t vals alts num rs⟩ :: r) fs' = false ∧ fnEq fs' (⟨nm, params, .step op to sn t vals alts num rs⟩ :: r) = false) := Lib.hid (by rw [hfs']; exact ne_name hsn)
          have HFO : Hid (stCost fs' ≤ 1000000 ∧ ∀ j (h : j < fs'.length), fs'[j].steps.tall + 1 ≤ 131072) := Lib.hid (by rw [hfs']; exact ok_re HOK.out.2.2 (by simp [St.cost]) (by simp [St.tall]))
          have HSX2 := Lib.hid hsx
          have HSZ2 : Hid (sx.size ≤ reach) := Lib.hid (by show sx.size ≤ 140737488355328; omega)
          clear hsx hsz hsn hds
          go_wp2_with fail
          go_region_with (fail)
          all_goals (
            go_wp2_with fail
            rw [← HSX2.out]
            obtain ⟨wS, hwS⟩ : ∃ wS, wS = (w5.setCell ⟨g, 0, none⟩ (.string sx)).drew := ⟨_, rfl⟩
            rw [← hwS]
            have HQV : Hid (SlAt wS (.slice (some ⟨g, 0, none⟩) nz cz) fs'.length fun b o => FnIn wS fs' b o) := Lib.hid (by
              rw [hwS, hfs']
              have hdf := (HDB.out.setName HND.out HSZ2.out).close
              rw [HN.out] at hdf ⊢
              have hq := fns_of_rows (w := w5.setCell ⟨g, 0, none⟩ (.string sx)) (fs := ⟨sx, params, .step op to sn t vals alts num rs⟩ :: r) hdf
              exact hq.mono (Nat.le_refl _) fun _ _ p q => FnIn.below (Below.drew (Below.refl _ _)) p q)
            have HBS : Hid (Below w.heap.size w wS) := Lib.hid (by rw [hwS]; exact Below.drew (HBW.out.setCell (p := ⟨g, 0, none⟩) (by show w.heap.size ≤ g; have := HB2.out.size; omega) _))
            have s0 : wS.cell? ⟨w2.heap.size, 0, none⟩ = some (.slice (some ⟨b, o, none⟩) nz cap) := by rw [hwS]; exact cell_row (Below.heap_setCell _ _ _ _ (by show w2.heap.size ≠ g; omega)) s0
            have t0 : wS.cell? ⟨w3.heap.size, 0, none⟩ = some (.slice (some ⟨g, 0, none⟩) nz cz) := by rw [hwS]; exact cell_row (Below.heap_setCell _ _ _ _ (by show w3.heap.size ≠ g; omega)) t0
            clear hwS hfs'

            have HC1 : Hid (Calls Tryd.prog 20 #[(.agg #[.slice (some ⟨g, 0, none⟩) nz cz]), (.agg #[.slice (some ⟨b, o, none⟩) nz cap])] wS (Grew (.bool false) wS)) := Lib.hid (by
              have h := Same_any fs' (⟨nm, params, .step op to sn t vals alts num rs⟩ :: r) (.slice (some ⟨g, 0, none⟩) nz cz) (.slice (some ⟨b, o, none⟩) nz cap) wS HQV.out (by rw [← HN.out]; exact HV.out.mono HBS.out.size fun _ _ p q => FnIn.below HBS.out p q) HFO.out.1 HFO.out.2
              rw [HNE.out.2] at h
              exact h)
            have HC3 : Hid (∀ w', Below w.heap.size w w' → Calls Tryd.prog 19 #[(.agg #[.slice (some ⟨b, o, none⟩) nz cap])] w' (MadeC w' (PrQ (⟨nm, params, .step op to sn t vals alts num rs⟩ :: r)))) := Lib.hid fun w' hb => Clone_any (⟨nm, params, .step op to sn t vals alts num rs⟩ :: r) _ w' (by rw [← HN.out]; exact HV.out.mono hb.size fun _ _ p q => FnIn.below hb p q) HOK.out.1 HOK.out.2.1 HOK.out.2.2.1 HOK.out.2.2.2
            clear HQV HNE
            go_wp2_with fail
            refine HC1.out.mono ?_
            rintro e x1 ⟨rfl, hx1⟩
            have s0 := (hx1.cell (p := ⟨w2.heap.size, 0, none⟩) (World.block_lt_of_cell? _ _ s0)).trans s0
            have HX1 : Hid (Below w.heap.size w x1) := Lib.hid (HBS.out.trans (hx1.mono HBS.out.size))
            clear hx1 HC1 t0
            go_wp2_with fail
            refine (HC3.out _ HX1.out).mono ?_
            rintro e x3 ⟨vy, Fy, rfl, ⟨ay, ny, cy, rfl, hRy⟩, hx3, hfy, hny⟩
            have HX3 : Hid (Below w.heap.size w x3) := Lib.hid (HX1.out.trans (hx3.mono HX1.out.size))
            have HC4 := Lib.hid (refFuncs_of (⟨nm, params, .step op to sn t vals alts num rs⟩ :: r) _ (.slice (some ⟨b, o, none⟩) nz cap) x3 (fns_of_rows hRy) (by rw [← HN.out]; exact HV.out.mono HX3.out.size fun _ _ p q => FnIn.below HX3.out p q))
            have hfld := fld_run ay ny cy
            clear hx3 hfy hny hRy HC3 s0
            go_wp2_with fail
            refine HC4.out.mono ?_
            rintro e x4 ⟨rfl, hx4⟩
            have HX4 : Hid (Below w.heap.size w x4) := Lib.hid (HX3.out.trans (hx4.mono HX3.out.size))
            clear hx4 HC4
            go_wp2_with fail
            go_ret
            exact ⟨by simp, HX4.out⟩)
        · obtain ⟨k, hk⟩ : ∃ k, k = wrap64 (t.n + 1) := ⟨_, rfl⟩
          have hwn : wf64 k ∧ t.n ≠ k := by rw [hk, show wrap64 (t.n + 1) = IntKind.i64.wrap (t.n + 1) from (by simp only [IntKind.wrap_i64, wrap64])]; exact wrap_next HDB.out.wfs.2.2.2.2.2.1
          go_wp2_with fail
          rw [← hk]
          clear hk
          obtain ⟨fs', hfs'⟩ : ∃ fs', fs' = (⟨nm, params, .step op to sn ⟨t.k, t.s, k⟩ vals alts num rs⟩ :: r : List Fn) := ⟨_, rfl⟩
          have HNE : Hid (fnEq (⟨nm, params, .step op to sn t vals alts num rs⟩ :: r) fs' = false ∧ fnEq fs' (⟨nm, params, .step op to sn t vals alts num rs⟩ :: r) = false) := Lib.hid (by rw [hfs']; exact ne_tag hwn.2)
          have HFO : Hid (stCost fs' ≤ 1000000 ∧ ∀ j (h : j < fs'.length), fs'[j].steps.tall + 1 ≤ 131072) := Lib.hid (by rw [hfs']; exact ok_re HOK.out.2.2 (by simp [St.cost]) (by simp [St.tall]))
          obtain ⟨wS, hwS⟩ : ∃ wS, wS = w5.setCell ⟨g2, 5, none⟩ (.int .i64 k) := ⟨_, rfl⟩
          rw [← hwS]
          have HQV : Hid (SlAt wS (.slice (some ⟨g, 0, none⟩) nz cz) fs'.length fun b o => FnIn wS fs' b o) := Lib.hid (by
            rw [hwS, hfs']
            have hdf := (HDB.out.setTag HND.out hwn.1).close
            rw [HN.out] at hdf ⊢
            exact fns_of_rows hdf)
          have HBS : Hid (Below w.heap.size w wS) := Lib.hid (by rw [hwS]; exact HBW.out.setCell (p := ⟨g2, 5, none⟩) (by show w.heap.size ≤ g2; have := HB2.out.size; omega) _)
          have s0 : wS.cell? ⟨w2.heap.size, 0, none⟩ = some (.slice (some ⟨b, o, none⟩) nz cap) := by rw [hwS]; exact cell_row (Below.heap_setCell _ _ _ _ (by show w2.heap.size ≠ g2; omega)) s0
          have t0 : wS.cell? ⟨w3.heap.size, 0, none⟩ = some (.slice (some ⟨g, 0, none⟩) nz cz) := by rw [hwS]; exact cell_row (Below.heap_setCell _ _ _ _ (by show w3.heap.size ≠ g2; omega)) t0
          clear hwS hfs'

          have HC1 : Hid (Calls Tryd.prog 20 #[(.agg #[.slice (some ⟨g, 0, none⟩) nz cz]), (.agg #[.slice (some ⟨b, o, none⟩) nz cap])] wS (Grew (.bool false) wS)) := Lib.hid (by
            have h := Same_any fs' (⟨nm, params, .step op to sn t vals alts num rs⟩ :: r) (.slice (some ⟨g, 0, none⟩) nz cz) (.slice (some ⟨b, o, none⟩) nz cap) wS HQV.out (by rw [← HN.out]; exact HV.out.mono HBS.out.size fun _ _ p q => FnIn.below HBS.out p q) HFO.out.1 HFO.out.2
            rw [HNE.out.2] at h
            exact h)
          have HC3 : Hid (∀ w', Below w.heap.size w w' → Calls Tryd.prog 19 #[(.agg #[.slice (some ⟨b, o, none⟩) nz cap])] w' (MadeC w' (PrQ (⟨nm, params, .step op to sn t vals alts num rs⟩ :: r)))) := Lib.hid fun w' hb => Clone_any (⟨nm, params, .step op to sn t vals alts num rs⟩ :: r) _ w' (by rw [← HN.out]; exact HV.out.mono hb.size fun _ _ p q => FnIn.below hb p q) HOK.out.1 HOK.out.2.1 HOK.out.2.2.1 HOK.out.2.2.2
          clear HQV HNE
          go_wp2_with fail
          refine HC1.out.mono ?_
          rintro e x1 ⟨rfl, hx1⟩
          have s0 := (hx1.cell (p := ⟨w2.heap.size, 0, none⟩) (World.block_lt_of_cell? _ _ s0)).trans s0
          have HX1 : Hid (Below w.heap.size w x1) := Lib.hid (HBS.out.trans (hx1.mono HBS.out.size))
          clear hx1 HC1 t0
          go_wp2_with fail
          refine (HC3.out _ HX1.out).mono ?_
          rintro e x3 ⟨vy, Fy, rfl, ⟨ay, ny, cy, rfl, hRy⟩, hx3, hfy, hny⟩
          have HX3 : Hid (Below w.heap.size w x3) := Lib.hid (HX1.out.trans (hx3.mono HX1.out.size))
          have HC4 := Lib.hid (refFuncs_of (⟨nm, params, .step op to sn t vals alts num rs⟩ :: r) _ (.slice (some ⟨b, o, none⟩) nz cap) x3 (fns_of_rows hRy) (by rw [← HN.out]; exact HV.out.mono HX3.out.size fun _ _ p q => FnIn.below HX3.out p q))
          have hfld := fld_run ay ny cy
          clear hx3 hfy hny hRy HC3 s0
          go_wp2_with fail
          refine HC4.out.mono ?_
          rintro e x4 ⟨rfl, hx4⟩
          have HX4 : Hid (Below w.heap.size w x4) := Lib.hid (HX3.out.trans (hx4.mono HX3.out.size))
          clear hx4 HC4
          go_wp2_with fail
          go_ret
          exact ⟨by simp, HX4.out⟩
        · cases vals with
          | nil =>
            have hu1 : u1 = .slice none 0 0 := by
              rcases HDB.out.rv with ⟨_, e, _⟩ | ⟨h, _⟩
              · exact e
              · simp at h
            subst hu1
            go_wp2_with fail
            go_ret
            exact ⟨rfl, HBW.out⟩
          | cons xv vr =>
            obtain ⟨g3, cap3, rfl, hg3F, hc2, hf2, hwx, hset⟩ := HDB.out.setVal HND.out
            have HSET := Lib.hid hset
            have hfr3 := HFR.out g3 (by simp [hg3F])
            have hgx3 : w2.heap.size < g3 := by have := hfr3.1; have := HSX.out; omega
            have hgy3 : g3 < w3.heap.size := hfr3.2
            have hl0 : (((vr.length + 1 : Nat) : Int) == 0) = false := by simp; omega
            have hl1 : (0 : Int) < ((vr.length + 1 : Nat) : Int) := by omega
            obtain ⟨ln, hln⟩ : ∃ ln, ln = vr.length + 1 := ⟨_, rfl⟩
            rw [← hln] at z3 hl0 hl1
            clear hset hfr3 hg3F hln
            obtain ⟨k, hk⟩ : ∃ k, k = wrap64 (xv.n + 1) := ⟨_, rfl⟩
            have hwn : wf64 k ∧ xv.n ≠ k := by rw [hk, show wrap64 (xv.n + 1) = IntKind.i64.wrap (xv.n + 1) from (by simp only [IntKind.wrap_i64, wrap64])]; exact wrap_next hwx
            go_wp2_with fail
            rw [← hk]
            clear hk
            obtain ⟨fs', hfs'⟩ : ∃ fs', fs' = (⟨nm, params, .step op to sn t (⟨xv.k, xv.s, k⟩ :: vr) alts num rs⟩ :: r : List Fn) := ⟨_, rfl⟩
            have HNE : Hid (fnEq (⟨nm, params, .step op to sn t (xv :: vr) alts num rs⟩ :: r) fs' = false ∧ fnEq fs' (⟨nm, params, .step op to sn t (xv :: vr) alts num rs⟩ :: r) = false) := Lib.hid (by rw [hfs']; exact ne_val hwn.2)
            have HFO : Hid (stCost fs' ≤ 1000000 ∧ ∀ j (h : j < fs'.length), fs'[j].steps.tall + 1 ≤ 131072) := Lib.hid (by rw [hfs']; exact ok_re HOK.out.2.2 (by simp [St.cost]) (by simp [St.tall]))
            obtain ⟨wS, hwS⟩ : ∃ wS, wS = w5.setCell ⟨g3, 2, none⟩ (.int .i64 k) := ⟨_, rfl⟩
            rw [← hwS]
            have HQV : Hid (SlAt wS (.slice (some ⟨g, 0, none⟩) nz cz) fs'.length fun b o => FnIn wS fs' b o) := Lib.hid (by
              rw [hwS, hfs']
              have hdf := (HSET.out k hwn.1).close
              rw [HN.out] at hdf ⊢
              exact fns_of_rows hdf)
            have HBS : Hid (Below w.heap.size w wS) := Lib.hid (by rw [hwS]; exact HBW.out.setCell (p := ⟨g3, 2, none⟩) (by show w.heap.size ≤ g3; have := HB2.out.size; omega) _)
            have s0 : wS.cell? ⟨w2.heap.size, 0, none⟩ = some (.slice (some ⟨b, o, none⟩) nz cap) := by rw [hwS]; exact cell_row (Below.heap_setCell _ _ _ _ (by show w2.heap.size ≠ g3; omega)) s0
            have t0 : wS.cell? ⟨w3.heap.size, 0, none⟩ = some (.slice (some ⟨g, 0, none⟩) nz cz) := by rw [hwS]; exact cell_row (Below.heap_setCell _ _ _ _ (by show w3.heap.size ≠ g3; omega)) t0
            clear hwS hfs'

            have HC1 : Hid (Calls Tryd.prog 20 #[(.agg #[.slice (some ⟨g, 0, none⟩) nz cz]), (.agg #[.slice (some ⟨b, o, none⟩) nz cap])] wS (Grew (.bool false) wS)) := Lib.hid (by
              have h := Same_any fs' (⟨nm, params, .step op to sn t (xv :: vr) alts num rs⟩ :: r) (.slice (some ⟨g, 0, none⟩) nz cz) (.slice (some ⟨b, o, none⟩) nz cap) wS HQV.out (by rw [← HN.out]; exact HV.out.mono HBS.out.size fun _ _ p q => FnIn.below HBS.out p q) HFO.out.1 HFO.out.2
              rw [HNE.out.2] at h
              exact h)
            have HC3 : Hid (∀ w', Below w.heap.size w w' → Calls Tryd.prog 19 #[(.agg #[.slice (some ⟨b, o, none⟩) nz cap])] w' (MadeC w' (PrQ (⟨nm, params, .step op to sn t (xv :: vr) alts num rs⟩ :: r)))) := Lib.hid fun w' hb => Clone_any (⟨nm, params, .step op to sn t (xv :: vr) alts num rs⟩ :: r) _ w' (by rw [← HN.out]; exact HV.out.mono hb.size fun _ _ p q => FnIn.below hb p q) HOK.out.1 HOK.out.2.1 HOK.out.2.2.1 HOK.out.2.2.2
            clear HQV HNE
            go_wp2_with fail
            refine HC1.out.mono ?_
            rintro e x1 ⟨rfl, hx1⟩
            have s0 := (hx1.cell (p := ⟨w2.heap.size, 0, none⟩) (World.block_lt_of_cell? _ _ s0)).trans s0
            have HX1 : Hid (Below w.heap.size w x1) := Lib.hid (HBS.out.trans (hx1.mono HBS.out.size))
            clear hx1 HC1 t0
            go_wp2_with fail
            refine (HC3.out _ HX1.out).mono ?_
            rintro e x3 ⟨vy, Fy, rfl, ⟨ay, ny, cy, rfl, hRy⟩, hx3, hfy, hny⟩
            have HX3 : Hid (Below w.heap.size w x3) := Lib.hid (HX1.out.trans (hx3.mono HX1.out.size))
            have HC4 := Lib.hid (refFuncs_of (⟨nm, params, .step op to sn t (xv :: vr) alts num rs⟩ :: r) _ (.slice (some ⟨b, o, none⟩) nz cap) x3 (fns_of_rows hRy) (by rw [← HN.out]; exact HV.out.mono HX3.out.size fun _ _ p q => FnIn.below HX3.out p q))
            have hfld := fld_run ay ny cy
            clear hx3 hfy hny hRy HC3 s0
            go_wp2_with fail
            refine HC4.out.mono ?_
            rintro e x4 ⟨rfl, hx4⟩
            have HX4 : Hid (Below w.heap.size w x4) := Lib.hid (HX3.out.trans (hx4.mono HX3.out.size))
            clear hx4 HC4
            go_wp2_with fail
            go_ret
            exact ⟨by simp, HX4.out⟩
end Go.Proofs.YtoidogfnjpmceaaDoor
