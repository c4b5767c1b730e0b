/- SynOwn: the law answers true. Conditions: first answers true, wherever it is called. -/
import Derived.Test.YtledjcplbldokaaGreatDoorSo1
import Derived.Test.YtledjcplbldokaaGreatDoorNumber
import Derived.Deep.RegionWith
import Derived.Deep.RegionHeld3
import Derived.Deep.DrawnRows
namespace Go.Proofs.YtledjcplbldokaaGreatDoor
open Go.ChangeShapes Go.WideShapes Go.ChangeAt Go.RowKit
attribute [local go_sem ↓] Go.wp_at_zero Go.wp_at_succ

theorem de_tail {w : World} {d : De} {r : List De} {g : Nat} (h : ∃ b o, (some ⟨g, 0, none⟩ : Option Addr) = some ⟨b, o, none⟩ ∧ b < w.heap.size ∧ DeIn w (d :: r) b o) : DeIn w r g 8 := by
  obtain ⟨b, o, e, -, h⟩ := h
  injection e with e
  injection e with e1 e2
  subst e1 e2
  intro i hi
  have := h (i + 1) (by simpa using hi)
  rw [show 0 + (i + 1) * 8 = 8 + i * 8 by omega] at this
  exact this
theorem ex_op1 {E k : Nat} {w : World} {v : Value} {F : List Nat} {op1 : Int} {nm1 : ByteArray} {num1 : Int} {names1 : List ByteArray} {L1 alts1 Lr : Ex} (h : RowO E k w v (Ex.expr op1 nm1 num1 names1 L1 alts1 Lr).len F (fun xs F => ExO w (.expr op1 nm1 num1 names1 L1 alts1 Lr) xs F)) : wf64 op1 := by
  rcases h with ⟨h, _⟩ | ⟨_, _, _, _, _, _, _, _, hp, _⟩
  · simp [Ex.len] at h
  · obtain ⟨_, _, _, _, _, _, _, _, _, _, h, _⟩ := hp
    exact h
theorem owns_room {w : World} {B E k n g cap : Nat} {xs : List Value} (h : w.ownsRow B E k (.slice (some ⟨g, 0, none⟩) n cap) n xs) : n ≤ cap := by
  rcases h.2 with ⟨hn, _⟩ | ⟨g', cap', cur, hv, hb, hgg, h1, _⟩
  · cases hn
  · injection hv with e1 e2 e3
    omega
set_option maxRecDepth 100000 in
set_option maxHeartbeats 8000000 in
theorem synOwn_core (ds : List Da) (fs : List De) (v : Value) (what : Int) (_hwh : (Lit.int .i64 what).wf = true) (w : World) (hp : PrV w ds fs v)
    (H0 : ∀ w', Below w.heap.size w w' → Calls Tryz.prog 4 #[] w' (Grew (.bool true) w')) :
    Calls Tryz.prog 3 #[v, .int .i64 what] w (Grew (.bool true) w) := by
  have HP0 := Lib.hid hp
  obtain ⟨v1, v2, rfl, h1, h2⟩ := hp
  obtain ⟨nd, ad, cd, hnd, rfl⟩ := sl_form h1
  obtain ⟨nf, af, cf, hnf, rfl⟩ := sl_form h2
  have hx2 : (nf : Int) ≤ 140737488355328 := by have : fs.length ≤ 140737488355328 := h2.1; omega
  have HNF := Lib.hid hnf
  have HB0 : Hid (Below w.heap.size w (w.alloc (.cells #[.slice ad nd cd, .slice af nf cf] 25))) := Lib.hid ((Below.refl _ w).alloc (Nat.le_refl _) _)
  have hf0 := H0 (w.alloc (.cells #[.slice ad nd cd, .slice af nf cf] 25)) HB0.out
  have H0 := Lib.hid hf0
  clear h1 h2 hnd hnf hf0
  go_enter Tryz.func3, Tryz.ntmps3
  go_wp2_with fail
  refine H0.out.mono ?_
  rintro e w1 ⟨rfl, hb1⟩
  have p0 : w1.cell? ⟨w.heap.size, 0, none⟩ = some (.slice ad nd cd) := by
    rw [hb1.cell (p := ⟨w.heap.size, 0, none⟩) (by simp), cell_of_row _ w.heap.size 0 _ _ _ (heap_alloc_new w _)]; rfl
  have p1 : w1.cell? ⟨w.heap.size, 1, none⟩ = some (.slice af nf cf) := by
    rw [hb1.cell (p := ⟨w.heap.size, 1, none⟩) (by simp), cell_of_row _ w.heap.size 1 _ _ _ (heap_alloc_new w _)]; rfl
  have hszw : w.heap.size < w1.heap.size := World.block_lt_of_cell? _ _ p0
  have HBA : Hid (Below w.heap.size w w1) := Lib.hid (HB0.out.trans (hb1.mono (by simp)))
  have HC := Lib.hid (small_any ds fs (.agg #[.slice ad nd cd, .slice af nf cf]) 200 w1 (by omega) (HP0.out.below HBA.out))
  clear hb1 HB0
  go_wp2_with fail
  refine HC.out.mono ?_
  rintro e w2 ⟨sm, rfl, hb2, hsm⟩
  have q0 := (hb2.cell (p := ⟨w.heap.size, 0, none⟩) hszw).trans p0
  have q1 := (hb2.cell (p := ⟨w.heap.size, 1, none⟩) hszw).trans p1
  have HB1 : Hid (Below w.heap.size w w2) := Lib.hid (HBA.out.trans (hb2.mono HBA.out.size))
  clear hb2 HC p0 p1 hszw HBA
  cases sm
  · clear hsm
    go_wp2_with fail
    go_ret
    exact ⟨rfl, HB1.out⟩
  · have hs := hsm rfl
    have hok := small_ok hs (by omega)
    have HOK := Lib.hid (show (∀ x ∈ ds, okDa x) ∧ (∀ x ∈ fs, okDe x) ∧ ds.length ≤ 1000000 ∧ fs.length ≤ 1000000 from ⟨hok.1, hok.2, by have := hs.datas; omega, by have := hs.defs; omega⟩)
    have HBR := Lib.hid hs.briefs
    clear hs hsm hok
    by_cases hz : nf = 0
    · have hzi : ((nf : Int) == 0) = true := by simp [hz]
      go_wp2_with fail
      go_ret
      exact ⟨rfl, HB1.out⟩
    · have hzi : ((nf : Int) == 0) = false := by simp; omega
      have HC := Lib.hid (Clone_any ds fs (.agg #[.slice ad nd cd, .slice af nf cf]) w2 (HP0.out.below HB1.out) HOK.out.1 HOK.out.2.1 HOK.out.2.2.1 HOK.out.2.2.2)
      go_wp2_with fail
      refine HC.out.mono ?_
      rintro e w3 ⟨vz, Fz, rfl, hQ, hb3, hfr, hnd⟩
      obtain ⟨n1, a1, c1, n2, a2, c2, F1, F2, rfl, hR1, hR2, rfl⟩ := hQ
      obtain ⟨d, r, rfl⟩ : ∃ d r, fs = d :: r := by
        cases fs with
        | nil => exfalso; exact hz (by simpa using HNF.out)
        | cons d r => exact ⟨d, r, rfl⟩
      obtain ⟨dn, dp, de⟩ := d
      obtain ⟨g, cg, op, nm, num, names, L, alts, x1, u1, u2, u3, xs, Fp, Fn, Fl, Fa, Fr, e1, e2, e3, hda⟩ := def_open hR2 (by simp)
      simp only at e2 hda
      subst e2 e3
      injection e1 with j1 j2 j3
      subst j1
      have j5 := j3.symm
      subst j5
      have j4 : nf = n2 := by rw [j2]; exact HNF.out
      subst j4
      rw [← j2] at hda
      have hF2 := List.nodup_append.1 hnd
      have HND := Lib.hid (show (∀ b ∈ F1, ∀ c ∈ rowsOf g Fp Fn Fl Fa Fr, b ≠ c) ∧ (rowsOf g Fp Fn Fl Fa Fr).Nodup from ⟨hF2.2.2, hF2.2.1⟩)
      have HFR := Lib.hid hfr
      have hPQ : PrV w3 ds ((dn, dp, .expr op nm num names L alts .nil) :: r) (.agg #[.slice a1 n1 c1, .slice (some ⟨g, 0, none⟩) nf cg]) := prV_of_rows hR1 hR2
      have HB2 : Hid (Below w.heap.size w w3) := Lib.hid (HB1.out.trans (hb3.mono HB1.out.size))
      have hs2 : w.heap.size < w2.heap.size := World.block_lt_of_cell? _ _ q0
      have hs3 : w2.heap.size ≤ w3.heap.size := hb3.size
      have r0 := ((Below.refl _ w3).alloc (Nat.le_refl _) (.cells #[.slice a1 n1 c1, .slice (some ⟨g, 0, none⟩) nf cg] 25)).cell (p := ⟨w.heap.size, 0, none⟩) (by show w.heap.size < w3.heap.size; omega) |>.trans ((hb3.cell (p := ⟨w.heap.size, 0, none⟩) hs2).trans q0)
      have r1 := ((Below.refl _ w3).alloc (Nat.le_refl _) (.cells #[.slice a1 n1 c1, .slice (some ⟨g, 0, none⟩) nf cg] 25)).cell (p := ⟨w.heap.size, 1, none⟩) (by show w.heap.size < w3.heap.size; omega) |>.trans ((hb3.cell (p := ⟨w.heap.size, 1, none⟩) hs2).trans q1)
      have t0 : (w3.alloc (.cells #[.slice a1 n1 c1, .slice (some ⟨g, 0, none⟩) nf cg] 25)).cell? ⟨w3.heap.size, 0, none⟩ = some (.slice a1 n1 c1) := by rw [cell_of_row _ w3.heap.size 0 _ _ _ (heap_alloc_new w3 _)]; rfl
      have t1 : (w3.alloc (.cells #[.slice a1 n1 c1, .slice (some ⟨g, 0, none⟩) nf cg] 25)).cell? ⟨w3.heap.size, 1, none⟩ = some (.slice (some ⟨g, 0, none⟩) nf cg) := by rw [cell_of_row _ w3.heap.size 1 _ _ _ (heap_alloc_new w3 _)]; rfl
      have hba := (Below.refl _ w3).alloc (Nat.le_refl _) (.cells #[.slice a1 n1 c1, .slice (some ⟨g, 0, none⟩) nf cg] 25)
      have HC5 : Hid (Calls Tryz.prog 7 #[(.agg #[.slice ad nd cd, .slice af nf cf]), (.agg #[.slice a1 n1 c1, .slice (some ⟨g, 0, none⟩) nf cg])] (w3.alloc (.cells #[.slice a1 n1 c1, .slice (some ⟨g, 0, none⟩) nf cg] 25)) (Grew (.bool true) (w3.alloc (.cells #[.slice a1 n1 c1, .slice (some ⟨g, 0, none⟩) nf cg] 25)))) := Lib.hid (by
        have h := Same_any ds ds _ _ _ _ (w3.alloc (.cells #[.slice a1 n1 c1, .slice (some ⟨g, 0, none⟩) nf cg] 25)) (HP0.out.below (HB2.out.trans (hba.mono HB2.out.size))) (hPQ.below hba)
        rw [show progEq ds ((dn, dp, .expr op nm num names L alts .nil) :: r) ds ((dn, dp, .expr op nm num names L alts .nil) :: r) = true by simp only [progEq, daEq_refl, deEq_refl]; rfl] at h
        exact h)
      have HBA := Lib.hid hba
      have HR1 := Lib.hid hR1
      have HPQ := Lib.hid hPQ
      have hqr := heap_alloc_new w3 (.cells #[.slice a1 n1 c1, .slice (some ⟨g, 0, none⟩) nf cg] 25)
      have hqf : ∀ j, (w3.alloc (.cells #[.slice a1 n1 c1, .slice (some ⟨g, 0, none⟩) nf cg] 25)).frozen? ⟨w3.heap.size, j, none⟩ = false := fun j => World.frozen?_alloc_new _ _ _ _
      have HDA := Lib.hid hda
      have hnn : ((nf : Int) != (nf : Int)) = false := by simp
      clear hnd hF2 hfr hPQ hb3 hR1 hR2 hda j2 q0 q1 hba
      go_wp2_with fail
      refine HC5.out.mono ?_
      rintro e w5 ⟨rfl, hb5⟩
      have s0 := (hb5.cell (p := ⟨w.heap.size, 0, none⟩) (by simp; omega)).trans r0
      have s1 := (hb5.cell (p := ⟨w.heap.size, 1, none⟩) (by simp; omega)).trans r1
      have t0 := (hb5.cell (p := ⟨w3.heap.size, 0, none⟩) (by simp)).trans t0
      have t1 := (hb5.cell (p := ⟨w3.heap.size, 1, none⟩) (by simp)).trans t1
      have HB5 : Hid (Below w3.heap.size w3 w5) := Lib.hid (HBA.out.trans (hb5.mono HBA.out.size))
      have HBW : Hid (Below w.heap.size w w5) := Lib.hid (HB2.out.trans (HB5.out.mono HB2.out.size))
      have HKF := Lib.hid (show KeepF w3 w5 (F1 ++ rowsOf g Fp Fn Fl Fa Fr) from ⟨HB5.out.size, fun b hb => HB5.out.block b (HFR.out b hb).2⟩)
      have HDT := Lib.hid (HR1.out.keep HKF.out.left fun _ _ hs hp => DaO.keep hp (HKF.out.left.sub hs))
      have HDB := Lib.hid (HDA.out.keep HKF.out.right)
      obtain ⟨z1, z2, z3, z4, z5⟩ := HDB.out.cells
      have zf0 := z5 0
      have zf4 := z5 4
      have hg2 : w2.heap.size ≤ g ∧ g < w3.heap.size := HFR.out g (by simp)
      have hgne : g ≠ w.heap.size := by omega
      have hgne2 : g ≠ w3.heap.size := by omega
      have hpos : (0 : Int) < (nf : Int) := by omega
      have HPV0 := Lib.hid (HP0.out.below HBW.out)
      have HQR := Lib.hid ((hb5.block w3.heap.size (by simp)).trans hqr)
      have hqf1 := (hb5.frozen (p := ⟨w3.heap.size, 1, none⟩) (by simp)).trans (hqf 1)
      have HCAP : Hid (nf ≤ cg) := Lib.hid (owns_room HDB.out.own)
      clear hb5 r0 r1 HC5 z5 hqr hqf
      go_wp2_with fail
      refine (number_any what 4 (by decide) (by decide) w5).mono ?_
      rintro e w6 ⟨rfl, rfl⟩
      obtain ⟨rr, hrr⟩ : ∃ rr, rr = what % 4 := ⟨_, rfl⟩
      rw [← hrr]
      have hr4 : rr = 0 ∨ rr = 1 ∨ rr = 2 ∨ rr = 3 := by omega
      clear hrr
      rcases hr4 with rfl | rfl | rfl | rfl
      · obtain ⟨k, hk⟩ : ∃ k, k = wrap64 (num + 1) := ⟨_, rfl⟩
        have hwn : wf64 k ∧ num ≠ k := by rw [hk, show wrap64 (num + 1) = IntKind.i64.wrap (num + 1) from (by simp only [IntKind.wrap_i64, wrap64])]; exact wrap_next HDB.out.num
        go_wp2_with fail
        rw [← hk]
        clear hk
        obtain ⟨fs', hfs'⟩ : ∃ fs', fs' = ((dn, dp, .expr op nm k names L alts .nil) :: r : List De) := ⟨_, rfl⟩
        have HNE : Hid (progEq ds ((dn, dp, .expr op nm num names L alts .nil) :: r) ds fs' = false ∧ progEq ds fs' ds ((dn, dp, .expr op nm num names L alts .nil) :: r) = false) := Lib.hid (by rw [hfs']; exact ⟨deEq_num hwn.2, deEq_num (Ne.symm hwn.2)⟩)
        obtain ⟨wS, hwS⟩ : ∃ wS, wS = w5.setCell ⟨g, 4, none⟩ (.int .i64 k) := ⟨_, rfl⟩
        rw [← hwS]
        have HQV : Hid (PrV wS ds fs' (.agg #[.slice a1 n1 c1, .slice (some ⟨g, 0, none⟩) nf cg])) := Lib.hid (by
          rw [hwS, hfs']
          have hdt := HDT.out.keep (keep_set (g := g) (j := 4) (v := .int .i64 k) fun b hb e => HND.out.1 b hb g (by simp) e) fun _ _ hs hp => DaO.keep hp ((keep_set (F := F1) (g := g) (j := 4) (v := .int .i64 k) fun b hb e => HND.out.1 b hb g (by simp) e).sub hs)
          have hdf := def_close (HDB.out.setNum HND.out.2 hwn.1)
          rw [HNF.out] at hdf ⊢
          exact prV_of_rows hdt hdf)
        have HBS : Hid (Below w.heap.size w wS) := Lib.hid (by rw [hwS]; exact HBW.out.setCell (p := ⟨g, 4, none⟩) (by show w.heap.size ≤ g; omega) _)
        have HPV := Lib.hid (HP0.out.below HBS.out)
        have s0 : wS.cell? ⟨w.heap.size, 0, none⟩ = some (.slice ad nd cd) := by rw [hwS]; exact cell_row (Below.heap_setCell _ _ _ _ (by show w.heap.size ≠ g; omega)) s0
        have s1 : wS.cell? ⟨w.heap.size, 1, none⟩ = some (.slice af nf cf) := by rw [hwS]; exact cell_row (Below.heap_setCell _ _ _ _ (by show w.heap.size ≠ g; omega)) s1
        have t0 : wS.cell? ⟨w3.heap.size, 0, none⟩ = some (.slice a1 n1 c1) := by rw [hwS]; exact cell_row (Below.heap_setCell _ _ _ _ (by show w3.heap.size ≠ g; omega)) t0
        have t1 : wS.cell? ⟨w3.heap.size, 1, none⟩ = some (.slice (some ⟨g, 0, none⟩) nf cg) := by rw [hwS]; exact cell_row (Below.heap_setCell _ _ _ _ (by show w3.heap.size ≠ g; omega)) t1
        clear hwS hfs'

        have HC1 : Hid (∀ w', Below wS.heap.size wS w' → Calls Tryz.prog 7 #[(.agg #[.slice ad nd cd, .slice af nf cf]), (.agg #[.slice a1 n1 c1, .slice (some ⟨g, 0, none⟩) nf cg])] w' (Grew (.bool false) w')) := Lib.hid fun w' hb => by
          have h := Same_any ds ds ((dn, dp, .expr op nm num names L alts .nil) :: r) fs' _ _ w' (HPV.out.below hb) (HQV.out.below hb)
          rw [HNE.out.1] at h
          exact h
        have HC2 : Hid (∀ w', Below wS.heap.size wS w' → Calls Tryz.prog 7 #[(.agg #[.slice a1 n1 c1, .slice (some ⟨g, 0, none⟩) nf cg]), (.agg #[.slice ad nd cd, .slice af nf cf])] w' (Grew (.bool false) w')) := Lib.hid fun w' hb => by
          have h := Same_any ds ds fs' ((dn, dp, .expr op nm num names L alts .nil) :: r) _ _ w' (HQV.out.below hb) (HPV.out.below hb)
          rw [HNE.out.2] at h
          exact h
        have HC3 : Hid (∀ w', Below wS.heap.size wS w' → Calls Tryz.prog 6 #[(.agg #[.slice ad nd cd, .slice af nf cf])] w' (MadeC w' (PrQ ds ((dn, dp, .expr op nm num names L alts .nil) :: r)))) := Lib.hid fun w' hb => Clone_any ds ((dn, dp, .expr op nm num names L alts .nil) :: r) _ w' (HPV.out.below hb) HOK.out.1 HOK.out.2.1 HOK.out.2.2.1 HOK.out.2.2.2
        have HSA : Hid (w.heap.size < wS.heap.size) := Lib.hid (World.block_lt_of_cell? _ _ s0)
        have HSB : Hid (w3.heap.size < wS.heap.size) := Lib.hid (World.block_lt_of_cell? _ _ t0)
        go_wp2_with fail
        go_region_held3 (fun w' => w'.cell? ⟨w.heap.size, 0, none⟩ = some (.slice ad nd cd) ∧ w'.cell? ⟨w.heap.size, 1, none⟩ = some (.slice af nf cf) ∧ w'.cell? ⟨w3.heap.size, 0, none⟩ = some (.slice a1 n1 c1) ∧ w'.cell? ⟨w3.heap.size, 1, none⟩ = some (.slice (some ⟨g, 0, none⟩) nf cg))
          (first | go_keep | (refine ⟨?_, ?_, ?_, ?_⟩ <;> (first | (rw [HKK.out.cell (p := ⟨w.heap.size, _, none⟩) HSA.out]; assumption) | (rw [HKK.out.cell (p := ⟨w3.heap.size, _, none⟩) HSB.out]; assumption))))
          (first
            | (go_at_call 7; refine (HC1.out _ (Below.drew (Below.refl _ wS))).mono ?_; rintro e x1 ⟨rfl, hx1⟩; have HKK : Hid (Below wS.heap.size wS x1) := Lib.hid ((Below.drew (Below.refl _ wS)).trans hx1); clear hx1 HC1)
            | (go_at_call 7; refine (HC2.out _ HKK.out).mono ?_; rintro e x2 ⟨rfl, hx2⟩; have HKQ := HKK.out.trans (hx2.mono HKK.out.size); clear HKK; have HKK := Lib.hid HKQ; clear HKQ hx2 HC2)
            | (go_at_call 6; refine (HC3.out _ HKK.out).mono ?_; rintro e x3 ⟨vy, Fy, rfl, hQy, hx3, hfy, hny⟩; obtain ⟨m1, b1, d1, m2, b2, d2, G1, G2, rfl, hR1, hR2, hFG⟩ := hQy; have HKQ := HKK.out.trans (hx3.mono HKK.out.size); have HC4 := Lib.hid (refProgram_any ds ((dn, dp, .expr op nm num names L alts .nil) :: r) _ _ x3 (HPV.out.below HKQ) (prV_of_rows hR1 hR2)); clear HKK; have HKK := Lib.hid HKQ; clear HKQ hx3 hfy hny HC3 hR1 hR2 hFG)
            | (go_at_call 9; refine HC4.out.mono ?_; rintro e x4 ⟨rfl, hx4⟩; have HKQ := HKK.out.trans (hx4.mono HKK.out.size); clear HKK; have HKK := Lib.hid HKQ; clear HKQ hx4 HC4))
        all_goals (
          go_wp2_with fail
          go_ret
          exact ⟨by simp, HBS.out.trans (HKK.out.mono HBS.out.size)⟩)
      · have hds : dn.size ≤ 60 := (HBR.out 0 (by simp)).1
        obtain ⟨sx, hsx⟩ : ∃ sx, sx = dn ++ (⟨#[120]⟩ : ByteArray) := ⟨_, rfl⟩
        have hsz : sx.size = dn.size + 1 := by rw [hsx, ByteArray.size_append]; rfl
        have hsn : dn.toList ≠ sx.toList := fun e => by
          rw [ByteArray.toList_eq, ByteArray.toList_eq] at e
          have e2 : dn.data.toList.length = sx.data.toList.length := by rw [e]
          have e3 : dn.size = sx.size := by rw [Array.length_toList, Array.length_toList] at e2; exact e2
          omega
        have hds2 : (dn.size : Int) ≤ 60 := by omega
        obtain ⟨fs', hfs'⟩ : ∃ fs', fs' = ((sx, dp, .expr op nm num names L alts .nil) :: r : List De) := ⟨_, rfl⟩
        have HNE : Hid (progEq ds ((dn, dp, .expr op nm num names L alts .nil) :: r) ds fs' = false ∧ progEq ds fs' ds ((dn, dp, .expr op nm num names L alts .nil) :: r) = false) := Lib.hid (by rw [hfs']; exact ⟨deEq_name hsn, deEq_name (Ne.symm hsn)⟩)
        have HSX := Lib.hid hsx
        have HSZ2 : Hid (sx.size ≤ reach) := Lib.hid (by show sx.size ≤ 140737488355328; omega)
        clear hsx hsz hsn hds
        go_wp2_with fail
        go_region_with (fail)
        all_goals (
          go_wp2_with fail
          rw [← HSX.out]
          obtain ⟨wS, hwS⟩ : ∃ wS, wS = (w5.setCell ⟨g, 0, none⟩ (.string sx)).drew := ⟨_, rfl⟩
          rw [← hwS]
          have HQV : Hid (PrV wS ds fs' (.agg #[.slice a1 n1 c1, .slice (some ⟨g, 0, none⟩) nf cg])) := Lib.hid (by
            rw [hwS, hfs']
            have hdt := HDT.out.keep (keep_set (g := g) (j := 0) (v := .string sx) fun b hb e => HND.out.1 b hb g (by simp) e) fun _ _ hs hp => DaO.keep hp ((keep_set (F := F1) (g := g) (j := 0) (v := .string sx) fun b hb e => HND.out.1 b hb g (by simp) e).sub hs)
            have hdf := def_close (HDB.out.setName HND.out.2 HSZ2.out)
            rw [HNF.out] at hdf ⊢
            exact (prV_of_rows hdt hdf).below (Below.drew (Below.refl _ _)))
          have HBS : Hid (Below w.heap.size w wS) := Lib.hid (by rw [hwS]; exact Below.drew (HBW.out.setCell (p := ⟨g, 0, none⟩) (by show w.heap.size ≤ g; omega) _))
          have HPV := Lib.hid (HP0.out.below HBS.out)
          have s0 : wS.cell? ⟨w.heap.size, 0, none⟩ = some (.slice ad nd cd) := by rw [hwS]; exact cell_row (Below.heap_setCell _ _ _ _ (by show w.heap.size ≠ g; omega)) s0
          have s1 : wS.cell? ⟨w.heap.size, 1, none⟩ = some (.slice af nf cf) := by rw [hwS]; exact cell_row (Below.heap_setCell _ _ _ _ (by show w.heap.size ≠ g; omega)) s1
          have t0 : wS.cell? ⟨w3.heap.size, 0, none⟩ = some (.slice a1 n1 c1) := by rw [hwS]; exact cell_row (Below.heap_setCell _ _ _ _ (by show w3.heap.size ≠ g; omega)) t0
          have t1 : wS.cell? ⟨w3.heap.size, 1, none⟩ = some (.slice (some ⟨g, 0, none⟩) nf cg) := by rw [hwS]; exact cell_row (Below.heap_setCell _ _ _ _ (by show w3.heap.size ≠ g; omega)) t1
          clear hwS hfs'

          have HC1 : Hid (∀ w', Below wS.heap.size wS w' → Calls Tryz.prog 7 #[(.agg #[.slice ad nd cd, .slice af nf cf]), (.agg #[.slice a1 n1 c1, .slice (some ⟨g, 0, none⟩) nf cg])] w' (Grew (.bool false) w')) := Lib.hid fun w' hb => by
            have h := Same_any ds ds ((dn, dp, .expr op nm num names L alts .nil) :: r) fs' _ _ w' (HPV.out.below hb) (HQV.out.below hb)
            rw [HNE.out.1] at h
            exact h
          have HC2 : Hid (∀ w', Below wS.heap.size wS w' → Calls Tryz.prog 7 #[(.agg #[.slice a1 n1 c1, .slice (some ⟨g, 0, none⟩) nf cg]), (.agg #[.slice ad nd cd, .slice af nf cf])] w' (Grew (.bool false) w')) := Lib.hid fun w' hb => by
            have h := Same_any ds ds fs' ((dn, dp, .expr op nm num names L alts .nil) :: r) _ _ w' (HQV.out.below hb) (HPV.out.below hb)
            rw [HNE.out.2] at h
            exact h
          have HC3 : Hid (∀ w', Below wS.heap.size wS w' → Calls Tryz.prog 6 #[(.agg #[.slice ad nd cd, .slice af nf cf])] w' (MadeC w' (PrQ ds ((dn, dp, .expr op nm num names L alts .nil) :: r)))) := Lib.hid fun w' hb => Clone_any ds ((dn, dp, .expr op nm num names L alts .nil) :: r) _ w' (HPV.out.below hb) HOK.out.1 HOK.out.2.1 HOK.out.2.2.1 HOK.out.2.2.2
          have HSA : Hid (w.heap.size < wS.heap.size) := Lib.hid (World.block_lt_of_cell? _ _ s0)
          have HSB : Hid (w3.heap.size < wS.heap.size) := Lib.hid (World.block_lt_of_cell? _ _ t0)
          go_wp2_with fail
          go_region_held3 (fun w' => w'.cell? ⟨w.heap.size, 0, none⟩ = some (.slice ad nd cd) ∧ w'.cell? ⟨w.heap.size, 1, none⟩ = some (.slice af nf cf) ∧ w'.cell? ⟨w3.heap.size, 0, none⟩ = some (.slice a1 n1 c1) ∧ w'.cell? ⟨w3.heap.size, 1, none⟩ = some (.slice (some ⟨g, 0, none⟩) nf cg))
            (first | go_keep | (refine ⟨?_, ?_, ?_, ?_⟩ <;> (first | (rw [HKK.out.cell (p := ⟨w.heap.size, _, none⟩) HSA.out]; assumption) | (rw [HKK.out.cell (p := ⟨w3.heap.size, _, none⟩) HSB.out]; assumption))))
            (first
              | (go_at_call 7; refine (HC1.out _ (Below.drew (Below.refl _ wS))).mono ?_; rintro e x1 ⟨rfl, hx1⟩; have HKK : Hid (Below wS.heap.size wS x1) := Lib.hid ((Below.drew (Below.refl _ wS)).trans hx1); clear hx1 HC1)
              | (go_at_call 7; refine (HC2.out _ HKK.out).mono ?_; rintro e x2 ⟨rfl, hx2⟩; have HKQ := HKK.out.trans (hx2.mono HKK.out.size); clear HKK; have HKK := Lib.hid HKQ; clear HKQ hx2 HC2)
              | (go_at_call 6; refine (HC3.out _ HKK.out).mono ?_; rintro e x3 ⟨vy, Fy, rfl, hQy, hx3, hfy, hny⟩; obtain ⟨m1, b1, d1, m2, b2, d2, G1, G2, rfl, hR1, hR2, hFG⟩ := hQy; have HKQ := HKK.out.trans (hx3.mono HKK.out.size); have HC4 := Lib.hid (refProgram_any ds ((dn, dp, .expr op nm num names L alts .nil) :: r) _ _ x3 (HPV.out.below HKQ) (prV_of_rows hR1 hR2)); clear HKK; have HKK := Lib.hid HKQ; clear HKQ hx3 hfy hny HC3 hR1 hR2 hFG)
              | (go_at_call 9; refine HC4.out.mono ?_; rintro e x4 ⟨rfl, hx4⟩; have HKQ := HKK.out.trans (hx4.mono HKK.out.size); clear HKK; have HKK := Lib.hid HKQ; clear HKQ hx4 HC4))
          all_goals (
            go_wp2_with fail
            go_ret
            exact ⟨by simp, HBS.out.trans (HKK.out.mono HBS.out.size)⟩))
      · have hn1 : r.length = nf - 1 := by have := HNF.out; simp at this; omega
        have hb35 := HB5.out
        have hpq := HPQ.out
        have hcap := HCAP.out
        obtain ⟨y1, y2, hy, hq1, hq2⟩ := hpq
        simp only [Value.agg.injEq] at hy
        have hy2 : y1 = .slice a1 n1 c1 ∧ y2 = .slice (some ⟨g, 0, none⟩) nf cg := by simpa [eq_comm] using hy
        obtain ⟨rfl, rfl⟩ := hy2
        have HQ1 := Lib.hid hq1
        have HQ2 := Lib.hid (sl_in hq2 (by omega))
        have HN1 := Lib.hid hn1
        have HLR : Hid (r.length ≤ reach) := Lib.hid (by have : nf ≤ 140737488355328 := HDB.out.len; show r.length ≤ 140737488355328; omega)
        obtain ⟨fs', hfs'⟩ : ∃ fs', fs' = r := ⟨_, rfl⟩
        have HNE : Hid (progEq ds ((dn, dp, .expr op nm num names L alts .nil) :: r) ds fs' = false ∧ progEq ds fs' ds ((dn, dp, .expr op nm num names L alts .nil) :: r) = false) := Lib.hid (by rw [hfs']; exact deEq_less)
        have HFS := Lib.hid hfs'
        have hci : (1 : Int) ≤ (nf : Int) := by omega
        have hcc : (nf : Int) ≤ (cg : Int) := by omega
        clear hq1 hq2 hn1 hb35 hcap hy hfs'
        by_cases hcg : cg = 1
        · go_wp2_with fail
          obtain ⟨wS, hwS⟩ : ∃ wS, wS = w5.setCell ⟨w3.heap.size, 1, none⟩ (.slice (some ⟨g, 0, none⟩) (nf - 1) 0) := ⟨_, rfl⟩
          rw [← hwS]
          have hbs3 : Below w3.heap.size w3 wS := by rw [hwS]; exact HB5.out.setCell (p := ⟨w3.heap.size, 1, none⟩) (Nat.le_refl _) _
          have HBS : Hid (Below w.heap.size w wS) := Lib.hid (HB2.out.trans (hbs3.mono HB2.out.size))
          have HQV : Hid (PrV wS ds fs' (.agg #[.slice a1 n1 c1, .slice (some ⟨g, 0, none⟩) (nf - 1) 0])) := Lib.hid (by
            rw [HFS.out]
            refine ⟨_, _, rfl, HQ1.out.mono hbs3.size fun _ _ p q => DaIn.below hbs3 p q, HLR.out, some ⟨g, 0, none⟩, 0, by rw [HN1.out], (fun h => by cases h), fun h => absurd h (by have := HN1.out; have := HCAP.out; omega)⟩)
          have HPV := Lib.hid (HP0.out.below HBS.out)
          have hrow := row_set (.slice (some ⟨g, 0, none⟩) (nf - 1) 0) HQR.out (i := 1)
          rw [← hwS] at hrow
          have s0 : wS.cell? ⟨w.heap.size, 0, none⟩ = some (.slice ad nd cd) := by rw [hwS]; exact cell_row (Below.heap_setCell _ _ _ _ (by show w.heap.size ≠ w3.heap.size; omega)) s0
          have s1 : wS.cell? ⟨w.heap.size, 1, none⟩ = some (.slice af nf cf) := by rw [hwS]; exact cell_row (Below.heap_setCell _ _ _ _ (by show w.heap.size ≠ w3.heap.size; omega)) s1
          have t0 : wS.cell? ⟨w3.heap.size, 0, none⟩ = some (.slice a1 n1 c1) := (cell_of_row _ _ 0 _ _ _ hrow).trans rfl
          have t1 : wS.cell? ⟨w3.heap.size, 1, none⟩ = some (.slice (some ⟨g, 0, none⟩) (nf - 1) 0) := (cell_of_row _ _ 1 _ _ _ hrow).trans rfl
          clear hwS hbs3 hrow
          have HC1 : Hid (∀ w', Below wS.heap.size wS w' → Calls Tryz.prog 7 #[(.agg #[.slice ad nd cd, .slice af nf cf]), (.agg #[.slice a1 n1 c1, .slice (some ⟨g, 0, none⟩) (nf - 1) 0])] w' (Grew (.bool false) w')) := Lib.hid fun w' hb => by
            have h := Same_any ds ds ((dn, dp, .expr op nm num names L alts .nil) :: r) fs' _ _ w' (HPV.out.below hb) (HQV.out.below hb)
            rw [HNE.out.1] at h
            exact h
          have HC2 : Hid (∀ w', Below wS.heap.size wS w' → Calls Tryz.prog 7 #[(.agg #[.slice a1 n1 c1, .slice (some ⟨g, 0, none⟩) (nf - 1) 0]), (.agg #[.slice ad nd cd, .slice af nf cf])] w' (Grew (.bool false) w')) := Lib.hid fun w' hb => by
            have h := Same_any ds ds fs' ((dn, dp, .expr op nm num names L alts .nil) :: r) _ _ w' (HQV.out.below hb) (HPV.out.below hb)
            rw [HNE.out.2] at h
            exact h
          have HC3 : Hid (∀ w', Below wS.heap.size wS w' → Calls Tryz.prog 6 #[(.agg #[.slice ad nd cd, .slice af nf cf])] w' (MadeC w' (PrQ ds ((dn, dp, .expr op nm num names L alts .nil) :: r)))) := Lib.hid fun w' hb => Clone_any ds ((dn, dp, .expr op nm num names L alts .nil) :: r) _ w' (HPV.out.below hb) HOK.out.1 HOK.out.2.1 HOK.out.2.2.1 HOK.out.2.2.2
          have HSA : Hid (w.heap.size < wS.heap.size) := Lib.hid (World.block_lt_of_cell? _ _ s0)
          have HSB : Hid (w3.heap.size < wS.heap.size) := Lib.hid (World.block_lt_of_cell? _ _ t0)
          go_wp2_with fail
          go_region_held3 (fun w' => w'.cell? ⟨w.heap.size, 0, none⟩ = some (.slice ad nd cd) ∧ w'.cell? ⟨w.heap.size, 1, none⟩ = some (.slice af nf cf) ∧ w'.cell? ⟨w3.heap.size, 0, none⟩ = some (.slice a1 n1 c1) ∧ w'.cell? ⟨w3.heap.size, 1, none⟩ = some (.slice (some ⟨g, 0, none⟩) (nf - 1) 0))
            (first | go_keep | (refine ⟨?_, ?_, ?_, ?_⟩ <;> (first | (rw [HKK.out.cell (p := ⟨w.heap.size, _, none⟩) HSA.out]; assumption) | (rw [HKK.out.cell (p := ⟨w3.heap.size, _, none⟩) HSB.out]; assumption))))
            (first
              | (go_at_call 7; refine (HC1.out _ (Below.drew (Below.refl _ wS))).mono ?_; rintro e x1 ⟨rfl, hx1⟩; have HKK : Hid (Below wS.heap.size wS x1) := Lib.hid ((Below.drew (Below.refl _ wS)).trans hx1); clear hx1 HC1)
              | (go_at_call 7; refine (HC2.out _ HKK.out).mono ?_; rintro e x2 ⟨rfl, hx2⟩; have HKQ := HKK.out.trans (hx2.mono HKK.out.size); clear HKK; have HKK := Lib.hid HKQ; clear HKQ hx2 HC2)
              | (go_at_call 6; refine (HC3.out _ HKK.out).mono ?_; rintro e x3 ⟨vy, Fy, rfl, hQy, hx3, hfy, hny⟩; obtain ⟨m1, b1, d1, m2, b2, d2, G1, G2, rfl, hR1, hR2, hFG⟩ := hQy; have HKQ := HKK.out.trans (hx3.mono HKK.out.size); have HC4 := Lib.hid (refProgram_any ds ((dn, dp, .expr op nm num names L alts .nil) :: r) _ _ x3 (HPV.out.below HKQ) (prV_of_rows hR1 hR2)); clear HKK; have HKK := Lib.hid HKQ; clear HKQ hx3 hfy hny HC3 hR1 hR2 hFG)
              | (go_at_call 9; refine HC4.out.mono ?_; rintro e x4 ⟨rfl, hx4⟩; have HKQ := HKK.out.trans (hx4.mono HKK.out.size); clear HKK; have HKK := Lib.hid HKQ; clear HKQ hx4 HC4))
          all_goals (
            go_wp2_with fail
            go_ret
            exact ⟨by simp, HBS.out.trans (HKK.out.mono HBS.out.size)⟩)
        · go_wp2_with fail
          obtain ⟨wS, hwS⟩ : ∃ wS, wS = w5.setCell ⟨w3.heap.size, 1, none⟩ (.slice (some ⟨g, 8, none⟩) (nf - 1) (cg - 1)) := ⟨_, rfl⟩
          rw [← hwS]
          have hbs3 : Below w3.heap.size w3 wS := by rw [hwS]; exact HB5.out.setCell (p := ⟨w3.heap.size, 1, none⟩) (Nat.le_refl _) _
          have HBS : Hid (Below w.heap.size w wS) := Lib.hid (HB2.out.trans (hbs3.mono HB2.out.size))
          have HQV : Hid (PrV wS ds fs' (.agg #[.slice a1 n1 c1, .slice (some ⟨g, 8, none⟩) (nf - 1) (cg - 1)])) := Lib.hid (by
            rw [HFS.out]
            refine ⟨_, _, rfl, HQ1.out.mono hbs3.size fun _ _ p q => DaIn.below hbs3 p q, HLR.out, some ⟨g, 8, none⟩, cg - 1, by rw [HN1.out], (fun h => by cases h), fun h => ⟨g, 8, rfl, Nat.lt_of_lt_of_le (show g < w3.heap.size by omega) hbs3.size, (de_tail HQ2.out).below hbs3 (by omega)⟩⟩)
          have HPV := Lib.hid (HP0.out.below HBS.out)
          have hrow := row_set (.slice (some ⟨g, 8, none⟩) (nf - 1) (cg - 1)) HQR.out (i := 1)
          rw [← hwS] at hrow
          have s0 : wS.cell? ⟨w.heap.size, 0, none⟩ = some (.slice ad nd cd) := by rw [hwS]; exact cell_row (Below.heap_setCell _ _ _ _ (by show w.heap.size ≠ w3.heap.size; omega)) s0
          have s1 : wS.cell? ⟨w.heap.size, 1, none⟩ = some (.slice af nf cf) := by rw [hwS]; exact cell_row (Below.heap_setCell _ _ _ _ (by show w.heap.size ≠ w3.heap.size; omega)) s1
          have t0 : wS.cell? ⟨w3.heap.size, 0, none⟩ = some (.slice a1 n1 c1) := (cell_of_row _ _ 0 _ _ _ hrow).trans rfl
          have t1 : wS.cell? ⟨w3.heap.size, 1, none⟩ = some (.slice (some ⟨g, 8, none⟩) (nf - 1) (cg - 1)) := (cell_of_row _ _ 1 _ _ _ hrow).trans rfl
          clear hwS hbs3 hrow
          have HC1 : Hid (∀ w', Below wS.heap.size wS w' → Calls Tryz.prog 7 #[(.agg #[.slice ad nd cd, .slice af nf cf]), (.agg #[.slice a1 n1 c1, .slice (some ⟨g, 8, none⟩) (nf - 1) (cg - 1)])] w' (Grew (.bool false) w')) := Lib.hid fun w' hb => by
            have h := Same_any ds ds ((dn, dp, .expr op nm num names L alts .nil) :: r) fs' _ _ w' (HPV.out.below hb) (HQV.out.below hb)
            rw [HNE.out.1] at h
            exact h
          have HC2 : Hid (∀ w', Below wS.heap.size wS w' → Calls Tryz.prog 7 #[(.agg #[.slice a1 n1 c1, .slice (some ⟨g, 8, none⟩) (nf - 1) (cg - 1)]), (.agg #[.slice ad nd cd, .slice af nf cf])] w' (Grew (.bool false) w')) := Lib.hid fun w' hb => by
            have h := Same_any ds ds fs' ((dn, dp, .expr op nm num names L alts .nil) :: r) _ _ w' (HQV.out.below hb) (HPV.out.below hb)
            rw [HNE.out.2] at h
            exact h
          have HC3 : Hid (∀ w', Below wS.heap.size wS w' → Calls Tryz.prog 6 #[(.agg #[.slice ad nd cd, .slice af nf cf])] w' (MadeC w' (PrQ ds ((dn, dp, .expr op nm num names L alts .nil) :: r)))) := Lib.hid fun w' hb => Clone_any ds ((dn, dp, .expr op nm num names L alts .nil) :: r) _ w' (HPV.out.below hb) HOK.out.1 HOK.out.2.1 HOK.out.2.2.1 HOK.out.2.2.2
          have HSA : Hid (w.heap.size < wS.heap.size) := Lib.hid (World.block_lt_of_cell? _ _ s0)
          have HSB : Hid (w3.heap.size < wS.heap.size) := Lib.hid (World.block_lt_of_cell? _ _ t0)
          go_wp2_with fail
          go_region_held3 (fun w' => w'.cell? ⟨w.heap.size, 0, none⟩ = some (.slice ad nd cd) ∧ w'.cell? ⟨w.heap.size, 1, none⟩ = some (.slice af nf cf) ∧ w'.cell? ⟨w3.heap.size, 0, none⟩ = some (.slice a1 n1 c1) ∧ w'.cell? ⟨w3.heap.size, 1, none⟩ = some (.slice (some ⟨g, 8, none⟩) (nf - 1) (cg - 1)))
            (first | go_keep | (refine ⟨?_, ?_, ?_, ?_⟩ <;> (first | (rw [HKK.out.cell (p := ⟨w.heap.size, _, none⟩) HSA.out]; assumption) | (rw [HKK.out.cell (p := ⟨w3.heap.size, _, none⟩) HSB.out]; assumption))))
            (first
              | (go_at_call 7; refine (HC1.out _ (Below.drew (Below.refl _ wS))).mono ?_; rintro e x1 ⟨rfl, hx1⟩; have HKK : Hid (Below wS.heap.size wS x1) := Lib.hid ((Below.drew (Below.refl _ wS)).trans hx1); clear hx1 HC1)
              | (go_at_call 7; refine (HC2.out _ HKK.out).mono ?_; rintro e x2 ⟨rfl, hx2⟩; have HKQ := HKK.out.trans (hx2.mono HKK.out.size); clear HKK; have HKK := Lib.hid HKQ; clear HKQ hx2 HC2)
              | (go_at_call 6; refine (HC3.out _ HKK.out).mono ?_; rintro e x3 ⟨vy, Fy, rfl, hQy, hx3, hfy, hny⟩; obtain ⟨m1, b1, d1, m2, b2, d2, G1, G2, rfl, hR1, hR2, hFG⟩ := hQy; have HKQ := HKK.out.trans (hx3.mono HKK.out.size); have HC4 := Lib.hid (refProgram_any ds ((dn, dp, .expr op nm num names L alts .nil) :: r) _ _ x3 (HPV.out.below HKQ) (prV_of_rows hR1 hR2)); clear HKK; have HKK := Lib.hid HKQ; clear HKQ hx3 hfy hny HC3 hR1 hR2 hFG)
              | (go_at_call 9; refine HC4.out.mono ?_; rintro e x4 ⟨rfl, hx4⟩; have HKQ := HKK.out.trans (hx4.mono HKK.out.size); clear HKK; have HKK := Lib.hid HKQ; clear HKQ hx4 HC4))
          all_goals (
            go_wp2_with fail
            go_ret
            exact ⟨by simp, HBS.out.trans (HKK.out.mono HBS.out.size)⟩)
      · cases L with
        | nil =>
          have hu2 : u2 = .slice none 0 0 := by
            rcases HDB.out.rl with ⟨_, e, _⟩ | ⟨h, _⟩
            · exact e
            · simp [Ex.len] at h
          subst hu2
          go_wp2_with fail
          go_ret
          exact ⟨rfl, HBW.out⟩
        | alt => exact absurd HDB.out.wl.1 (by simp)
        | expr op1 nm1 num1 names1 L1 alts1 Lr =>
          obtain ⟨g2, cap2, rfl, hg2g, hg2F, hc2, hf2, hset⟩ := HDB.out.part HND.out.2
          have hop1 : wf64 op1 := ex_op1 HDB.out.rl
          obtain ⟨k, hk⟩ : ∃ k, k = wrap64 (op1 + 1) := ⟨_, rfl⟩
          have hwn : wf64 k ∧ op1 ≠ k := by rw [hk, show wrap64 (op1 + 1) = IntKind.i64.wrap (op1 + 1) from (by simp only [IntKind.wrap_i64, wrap64])]; exact wrap_next hop1
          have HSET := Lib.hid (hset k hwn.1)
          have hfr2 : w2.heap.size ≤ g2 ∧ g2 < w3.heap.size := HFR.out g2 (by simp [hg2F])
          have HGF := Lib.hid hg2F
          obtain ⟨ln, hln⟩ : ∃ ln, ln = (Ex.expr op1 nm1 num1 names1 L1 alts1 Lr).len := ⟨_, rfl⟩
          rw [← hln] at z4
          have hl0 : ¬ ln = 0 := by rw [hln]; simp [Ex.len]
          have hl1 : (0 : Int) < (ln : Int) := by omega
          have hl2 : ((ln : Int) == 0) = false := by simp; omega
          clear hset hln hop1 hg2F hg2g
          go_wp2_with fail
          rw [← hk]
          clear hk
          obtain ⟨fs', hfs'⟩ : ∃ fs', fs' = ((dn, dp, .expr op nm num names (.expr k nm1 num1 names1 L1 alts1 Lr) alts .nil) :: r : List De) := ⟨_, rfl⟩
          have HNE : Hid (progEq ds ((dn, dp, .expr op nm num names (.expr op1 nm1 num1 names1 L1 alts1 Lr) alts .nil) :: r) ds fs' = false ∧ progEq ds fs' ds ((dn, dp, .expr op nm num names (.expr op1 nm1 num1 names1 L1 alts1 Lr) alts .nil) :: r) = false) := Lib.hid (by rw [hfs']; exact ⟨deEq_part hwn.2, deEq_part (Ne.symm hwn.2)⟩)
          obtain ⟨wS, hwS⟩ : ∃ wS, wS = w5.setCell ⟨g2, 0, none⟩ (.int .i64 k) := ⟨_, rfl⟩
          rw [← hwS]
          have HQV : Hid (PrV wS ds fs' (.agg #[.slice a1 n1 c1, .slice (some ⟨g, 0, none⟩) nf cg])) := Lib.hid (by
            rw [hwS, hfs']
            have hdt := HDT.out.keep (keep_set (g := g2) (j := 0) (v := .int .i64 k) fun b hb e => HND.out.1 b hb g2 (by simp [HGF.out]) e) fun _ _ hs hp => DaO.keep hp ((keep_set (F := F1) (g := g2) (j := 0) (v := .int .i64 k) fun b hb e => HND.out.1 b hb g2 (by simp [HGF.out]) e).sub hs)
            have hdf := def_close (HSET.out)
            rw [HNF.out] at hdf ⊢
            exact prV_of_rows hdt hdf)
          have HBS : Hid (Below w.heap.size w wS) := Lib.hid (by rw [hwS]; exact HBW.out.setCell (p := ⟨g2, 0, none⟩) (by show w.heap.size ≤ g2; omega) _)
          have HPV := Lib.hid (HP0.out.below HBS.out)
          have s0 : wS.cell? ⟨w.heap.size, 0, none⟩ = some (.slice ad nd cd) := by rw [hwS]; exact cell_row (Below.heap_setCell _ _ _ _ (by show w.heap.size ≠ g2; omega)) s0
          have s1 : wS.cell? ⟨w.heap.size, 1, none⟩ = some (.slice af nf cf) := by rw [hwS]; exact cell_row (Below.heap_setCell _ _ _ _ (by show w.heap.size ≠ g2; omega)) s1
          have t0 : wS.cell? ⟨w3.heap.size, 0, none⟩ = some (.slice a1 n1 c1) := by rw [hwS]; exact cell_row (Below.heap_setCell _ _ _ _ (by show w3.heap.size ≠ g2; omega)) t0
          have t1 : wS.cell? ⟨w3.heap.size, 1, none⟩ = some (.slice (some ⟨g, 0, none⟩) nf cg) := by rw [hwS]; exact cell_row (Below.heap_setCell _ _ _ _ (by show w3.heap.size ≠ g2; omega)) t1
          clear hwS hfs'

          have HC1 : Hid (∀ w', Below wS.heap.size wS w' → Calls Tryz.prog 7 #[(.agg #[.slice ad nd cd, .slice af nf cf]), (.agg #[.slice a1 n1 c1, .slice (some ⟨g, 0, none⟩) nf cg])] w' (Grew (.bool false) w')) := Lib.hid fun w' hb => by
            have h := Same_any ds ds ((dn, dp, .expr op nm num names (.expr op1 nm1 num1 names1 L1 alts1 Lr) alts .nil) :: r) fs' _ _ w' (HPV.out.below hb) (HQV.out.below hb)
            rw [HNE.out.1] at h
            exact h
          have HC2 : Hid (∀ w', Below wS.heap.size wS w' → Calls Tryz.prog 7 #[(.agg #[.slice a1 n1 c1, .slice (some ⟨g, 0, none⟩) nf cg]), (.agg #[.slice ad nd cd, .slice af nf cf])] w' (Grew (.bool false) w')) := Lib.hid fun w' hb => by
            have h := Same_any ds ds fs' ((dn, dp, .expr op nm num names (.expr op1 nm1 num1 names1 L1 alts1 Lr) alts .nil) :: r) _ _ w' (HQV.out.below hb) (HPV.out.below hb)
            rw [HNE.out.2] at h
            exact h
          have HC3 : Hid (∀ w', Below wS.heap.size wS w' → Calls Tryz.prog 6 #[(.agg #[.slice ad nd cd, .slice af nf cf])] w' (MadeC w' (PrQ ds ((dn, dp, .expr op nm num names (.expr op1 nm1 num1 names1 L1 alts1 Lr) alts .nil) :: r)))) := Lib.hid fun w' hb => Clone_any ds ((dn, dp, .expr op nm num names (.expr op1 nm1 num1 names1 L1 alts1 Lr) alts .nil) :: r) _ w' (HPV.out.below hb) HOK.out.1 HOK.out.2.1 HOK.out.2.2.1 HOK.out.2.2.2
          have HSA : Hid (w.heap.size < wS.heap.size) := Lib.hid (World.block_lt_of_cell? _ _ s0)
          have HSB : Hid (w3.heap.size < wS.heap.size) := Lib.hid (World.block_lt_of_cell? _ _ t0)
          go_wp2_with fail
          go_region_held3 (fun w' => w'.cell? ⟨w.heap.size, 0, none⟩ = some (.slice ad nd cd) ∧ w'.cell? ⟨w.heap.size, 1, none⟩ = some (.slice af nf cf) ∧ w'.cell? ⟨w3.heap.size, 0, none⟩ = some (.slice a1 n1 c1) ∧ w'.cell? ⟨w3.heap.size, 1, none⟩ = some (.slice (some ⟨g, 0, none⟩) nf cg))
            (first | go_keep | (refine ⟨?_, ?_, ?_, ?_⟩ <;> (first | (rw [HKK.out.cell (p := ⟨w.heap.size, _, none⟩) HSA.out]; assumption) | (rw [HKK.out.cell (p := ⟨w3.heap.size, _, none⟩) HSB.out]; assumption))))
            (first
              | (go_at_call 7; refine (HC1.out _ (Below.drew (Below.refl _ wS))).mono ?_; rintro e x1 ⟨rfl, hx1⟩; have HKK : Hid (Below wS.heap.size wS x1) := Lib.hid ((Below.drew (Below.refl _ wS)).trans hx1); clear hx1 HC1)
              | (go_at_call 7; refine (HC2.out _ HKK.out).mono ?_; rintro e x2 ⟨rfl, hx2⟩; have HKQ := HKK.out.trans (hx2.mono HKK.out.size); clear HKK; have HKK := Lib.hid HKQ; clear HKQ hx2 HC2)
              | (go_at_call 6; refine (HC3.out _ HKK.out).mono ?_; rintro e x3 ⟨vy, Fy, rfl, hQy, hx3, hfy, hny⟩; obtain ⟨m1, b1, d1, m2, b2, d2, G1, G2, rfl, hR1, hR2, hFG⟩ := hQy; have HKQ := HKK.out.trans (hx3.mono HKK.out.size); have HC4 := Lib.hid (refProgram_any ds ((dn, dp, .expr op nm num names (.expr op1 nm1 num1 names1 L1 alts1 Lr) alts .nil) :: r) _ _ x3 (HPV.out.below HKQ) (prV_of_rows hR1 hR2)); clear HKK; have HKK := Lib.hid HKQ; clear HKQ hx3 hfy hny HC3 hR1 hR2 hFG)
              | (go_at_call 9; refine HC4.out.mono ?_; rintro e x4 ⟨rfl, hx4⟩; have HKQ := HKK.out.trans (hx4.mono HKK.out.size); clear HKK; have HKK := Lib.hid HKQ; clear HKQ hx4 HC4))
          all_goals (
            go_wp2_with fail
            go_ret
            exact ⟨by simp, HBS.out.trans (HKK.out.mono HBS.out.size)⟩)
end Go.Proofs.YtledjcplbldokaaGreatDoor
