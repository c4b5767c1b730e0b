/- gristmillmake.Small: it ends, and what it lets through is small. No conditions. -/
import Derived.Test.YtledjcplbldokaaGreatDoorSm2
namespace Go.Proofs.YtledjcplbldokaaGreatDoor
open Go.ChangeShapes Go.WideShapes Go.ChangeAt Go.RowKit

theorem da_at {w : World} {ds : List Da} {b o i : Nat} (h : DaIn w ds b o) (hi : i < ds.length) : ∃ dn dp dc v1 v2, ds[i] = (dn, dp, dc) ∧ dn.size ≤ reach ∧ w.cell? ⟨b, o + i * 3, none⟩ = some (.string dn) ∧ w.cell? ⟨b, o + i * 3 + 1, none⟩ = some v1 ∧ w.cell? ⟨b, o + i * 3 + 2, none⟩ = some v2 ∧
    (SlAt w v1 dp.length fun b o => TxIn w dp b o) ∧ (SlAt w v2 dc.length fun b o => CoIn w dc b o) := by
  obtain ⟨h1, h2, ⟨v1, h3, h4⟩, v2, h5, h6⟩ := h i hi
  exact ⟨ds[i].1, ds[i].2.1, ds[i].2.2, v1, v2, rfl, h2, h1, h3, h5, h4, h6⟩
theorem co_at {w : World} {cs : List Co} {b o i : Nat} (h : CoIn w cs b o) (hi : i < cs.length) : ∃ cn ca v, cs[i] = (cn, ca) ∧ cn.size ≤ reach ∧ w.cell? ⟨b, o + i * 2, none⟩ = some (.string cn) ∧ w.cell? ⟨b, o + i * 2 + 1, none⟩ = some v ∧ (SlAt w v ca.len fun b o => TyIn w ca b o 0) := by
  obtain ⟨h1, h2, v, h3, h4⟩ := h i hi
  exact ⟨cs[i].1, cs[i].2, v, rfl, h2, h1, h3, h4⟩
theorem de_at {w : World} {fs : List De} {b o i : Nat} (h : DeIn w fs b o) (hi : i < fs.length) : ∃ dn dp op nm num names l alts v1 v2 v3 v4, fs[i] = (dn, dp, .expr op nm num names l alts .nil) ∧ dn.size ≤ reach ∧ w.cell? ⟨b, o + i * 8, none⟩ = some (.string dn) ∧ w.cell? ⟨b, o + i * 8 + 1, none⟩ = some v1 ∧
    w.cell? ⟨b, o + i * 8 + 2, none⟩ = some (.int .i64 op) ∧ w.cell? ⟨b, o + i * 8 + 3, none⟩ = some (.string nm) ∧ w.cell? ⟨b, o + i * 8 + 4, none⟩ = some (.int .i64 num) ∧ w.cell? ⟨b, o + i * 8 + 5, none⟩ = some v2 ∧ w.cell? ⟨b, o + i * 8 + 6, none⟩ = some v3 ∧ w.cell? ⟨b, o + i * 8 + 7, none⟩ = some v4 ∧
    (SlAt w v1 dp.length fun b o => TxIn w dp b o) ∧ nm.size ≤ reach ∧ l.wf true ∧ alts.wf false ∧ (SlAt w v2 names.length fun b o => TxIn w names b o) ∧ (SlAt w v3 l.len fun b o => ExIn w l b o 0) ∧ (SlAt w v4 alts.len fun b o => ExIn w alts b o 0) := by
  obtain ⟨h1, h2, ⟨v1, h3, h4⟩, h5, h6, h7⟩ := h i hi
  obtain ⟨op, nm, num, names, l, alts, he⟩ := one_expr h5 h6
  rw [he] at h5 h7
  obtain ⟨g1, v2, v3, v4, e0, e1, e2, e3, e4, e5, e6, e7, e8, -⟩ := exIn_cells h7
  simp only [Nat.zero_mul, Nat.add_zero] at e0 e1 e2 e3 e4 e5
  exact ⟨fs[i].1, fs[i].2.1, op, nm, num, names, l, alts, v1, v2, v3, v4, by rw [← he], h2, h1, h3, e0, e1, e2, e3, e4, e5, h4, g1, (ex_wf h5).1, (ex_wf h5).2.1, e6, e7, e8⟩
theorem sl_form {w : World} {v : Value} {n : Nat} {P : Nat → Nat → Prop} (h : SlAt w v n P) : ∃ m a c, m = n ∧ v = .slice a m c := by
  obtain ⟨-, a, c, e, -⟩ := h
  exact ⟨n, a, c, rfl, e⟩
def daB (d : Da) : Prop := d.1.size ≤ 60 ∧ txBrief d.2.1 ∧ coBrief d.2.2
def coB (c : Co) : Prop := c.1.size ≤ 60 ∧ c.2.len ≤ 8 ∧ c.2.brief ∧ c.2.tall ≤ 31
def deB (d : De) : Prop := d.1.size ≤ 60 ∧ txBrief d.2.1 ∧ d.2.2.brief ∧ d.2.2.tall ≤ 31

/-- What Small answers: whether it is small; if so it is. -/
def SmallRet (ds : List Da) (fs : List De) (most : Nat) (w : World) (e : Ending) (w' : World) : Prop := ∃ b, e = .returned (.bool b) ∧ Below w.heap.size w w' ∧ (b = true → SmallP ds fs most)
theorem smallRet_no {ds : List Da} {fs : List De} {most : Nat} {w w' : World} {e : Ending} (he : e = .returned (.bool false)) (hb : Below w.heap.size w w') : SmallRet ds fs most w e w' := ⟨false, he, hb, fun h => by cases h⟩
theorem smallRet_yes {ds : List Da} {fs : List De} {most : Nat} {w w' : World} {e : Ending} (he : e = .returned (.bool true)) (hb : Below w.heap.size w w') (h : SmallP ds fs most) : SmallRet ds fs most w e w' := ⟨true, he, hb, fun _ => h⟩

set_option maxRecDepth 100000 in
set_option maxHeartbeats 8000000 in
theorem small_any (ds : List Da) (fs : List De) (v : Value) (most : Nat) (w : World) (hmost : most ≤ 1000000) (hp : PrV w ds fs v) :
    Calls Tryz.prog 5 #[v, .int .i64 (most : Int)] w (SmallRet ds fs most w) := by
  obtain ⟨v1, v2, rfl, h1, h2⟩ := hp
  obtain ⟨hnd, ad, cd, rfl, -, hs1⟩ := h1
  obtain ⟨hnf, af, cf, rfl, -, hs2⟩ := h2
  have HVD := Lib.hid hs1
  have HVF := Lib.hid hs2
  obtain ⟨nd, hnd1⟩ : ∃ n, n = ds.length := ⟨_, rfl⟩
  obtain ⟨nf, hnf1⟩ : ∃ n, n = fs.length := ⟨_, rfl⟩
  have HND := Lib.hid hnd1
  have HNF := Lib.hid hnf1
  rw [← hnd1] at hnd HVD ⊢
  rw [← hnf1] at hnf HVF ⊢
  have hx1 : (nd : Int) ≤ 140737488355328 := by have : nd ≤ 140737488355328 := hnd; omega
  have hx2 : (nf : Int) ≤ 140737488355328 := by have : nf ≤ 140737488355328 := hnf; omega
  have hm1 : (most : Int) ≤ 1000000 := by omega
  clear hs1 hs2 hnd hnf hnd1 hnf1
  by_cases hn8 : (8 : Int) < (nd : Int)
  · go_enter Tryz.func5, Tryz.ntmps5
    go_wp2_with fail
    go_ret
    exact smallRet_no (rfl) ((Below.refl _ w).alloc (Nat.le_refl _) _)
  · by_cases hn12 : (12 : Int) < (nf : Int)
    · go_enter Tryz.func5, Tryz.ntmps5
      go_wp2_with fail
      go_ret
      exact smallRet_no (rfl) ((Below.refl _ w).alloc (Nat.le_refl _) _)
    · have HB0 := Lib.hid (Below.refl (w.heap.size + 1) (w.alloc (.cells #[.slice ad nd cd, .slice af nf cf] 25)))
      go_enter Tryz.func5, Tryz.ntmps5
      go_wp2_with fail
      go_loopw [5, 6] (fun vl vi wr => ∃ (i : Nat) (l : Int), vl = .int .i64 l ∧ vi = .int .i64 (i : Int) ∧ i ≤ nd ∧ -1 ≤ l ∧ l ≤ 4294967296 ∧ Hid (Below (w.heap.size + 1) (w.alloc (.cells #[.slice ad nd cd, .slice af nf cf] 25)) wr ∧ (0 ≤ l → l + daCost ds ≤ most + daCost (ds.drop i) ∧ ∀ j (h : j < ds.length), j < i → daB ds[j]))) (fun _ vi _ => nd + 1 - (intOf vi).toNat)
      case atStart => exact ⟨0, most, rfl, rfl, by omega, by omega, by omega, Lib.hid ⟨HB0.out, fun _ => ⟨by simp only [List.drop_zero]; omega, fun j _ h => by omega⟩⟩⟩
      case round =>
        obtain ⟨i, l, rfl, rfl, hin, hl3, hl4, hR⟩ := hrel
        obtain ⟨wa, hwa⟩ : ∃ wa, wa = wr := ⟨_, rfl⟩
        subst hwa
        have HBW : Hid (Below w.heap.size w wa) := Lib.hid (below_of_kept hR.out.1)
        have HB := Lib.hid hR.out.1
        have HF := Lib.hid hR.out.2
        clear hR
        have p0 : wa.cell? ⟨w.heap.size, 0, none⟩ = some (.slice ad nd cd) := by
          rw [HB.out.cell (p := ⟨w.heap.size, 0, none⟩) (Nat.lt_succ_self _), cell_of_row _ w.heap.size 0 _ _ _ (heap_alloc_new w _)]
          rfl
        by_cases hii : (i : Int) < (nd : Int)
        · have hi0 : (0 : Int) ≤ (i : Int) := by omega
          have hilt : i < ds.length := by have := HND.out; omega
          obtain ⟨b, o, rfl, hbw, ht⟩ := HVD.out (by omega)
          obtain ⟨dn, dp, dc, v1, v2, he, hdn, c0, c1, c2, hs1, hs2⟩ := da_at (ht.below HBW.out hbw) hilt
          have HE : Hid (∀ h : i < ds.length, ds[i] = (dn, dp, dc)) := Lib.hid fun _ => he
          obtain ⟨hnpx, ap, cp, rfl, -, htp⟩ := hs1
          obtain ⟨np, hnp⟩ : ∃ np, np = dp.length := ⟨_, rfl⟩
          rw [← hnp] at c1 htp hnpx
          obtain ⟨hncx, ac, cc, rfl, -, htc⟩ := hs2
          obtain ⟨nc, hnc⟩ : ∃ nc, nc = dc.length := ⟨_, rfl⟩
          rw [← hnc] at c2 htc hncx
          have HNP := Lib.hid hnp
          have HNC := Lib.hid hnc
          have HTP : Hid (0 < np → ∃ b o, ap = some ⟨b, o, none⟩ ∧ b < wa.heap.size ∧ TxIn wa dp b o) := Lib.hid htp
          have HTC : Hid (0 < nc → ∃ b o, ac = some ⟨b, o, none⟩ ∧ b < wa.heap.size ∧ CoIn wa dc b o) := Lib.hid htc
          have hnp' : (np : Int) ≤ 140737488355328 := by have : np ≤ 140737488355328 := hnpx; omega
          have hnc' : (nc : Int) ≤ 140737488355328 := by have : nc ≤ 140737488355328 := hncx; omega
          have hdn' : (dn.size : Int) ≤ 140737488355328 := by have : dn.size ≤ 140737488355328 := hdn; omega
          have HB2 : Hid (Below (wa.heap.size + 1) (wa.alloc (.cells #[.string dn, .slice ap np cp, .slice ac nc cc] 45)) (wa.alloc (.cells #[.string dn, .slice ap np cp, .slice ac nc cc] 45))) := Lib.hid (Below.refl _ _)
          have q0 : (wa.alloc (.cells #[.string dn, .slice ap np cp, .slice ac nc cc] 45)).cell? ⟨wa.heap.size, 0, none⟩ = some (.string dn) := by rw [cell_of_row _ wa.heap.size 0 _ _ _ (heap_alloc_new wa _)]; rfl
          have q1 : (wa.alloc (.cells #[.string dn, .slice ap np cp, .slice ac nc cc] 45)).cell? ⟨wa.heap.size, 1, none⟩ = some (.slice ap np cp) := by rw [cell_of_row _ wa.heap.size 1 _ _ _ (heap_alloc_new wa _)]; rfl
          have q2 : (wa.alloc (.cells #[.string dn, .slice ap np cp, .slice ac nc cc] 45)).cell? ⟨wa.heap.size, 2, none⟩ = some (.slice ac nc cc) := by rw [cell_of_row _ wa.heap.size 2 _ _ _ (heap_alloc_new wa _)]; rfl
          clear ht hilt he htp htc hnp hnpx hnc hncx hdn
          by_cases hleft : l - 1 - (np : Int) - (nc : Int) < 0
          · go_wp2_with fail
            go_ret
            exact smallRet_no (rfl) (HBW.out.alloc HBW.out.size _)
          · by_cases hname : (60 : Int) < (dn.size : Int)
            · go_wp2_with fail
              go_ret
              exact smallRet_no (rfl) (HBW.out.alloc HBW.out.size _)
            · have HBA0 := Lib.hid HB.out
              clear HB
              go_wp2_with fail
              go_loopw [5, 8] (fun vl vk wr => ∃ (k : Nat) (l2 : Int), vl = .int .i64 l2 ∧ vk = .int .i64 (k : Int) ∧ k ≤ nc ∧ -1 ≤ l2 ∧ l2 ≤ 4294967296 ∧ Hid (Below (wa.heap.size + 1) (wa.alloc (.cells #[.string dn, .slice ap np cp, .slice ac nc cc] 45)) wr ∧ (0 ≤ l2 → l2 + coCost dc ≤ (l - 1 - (np : Int) - (nc : Int)) + coCost (dc.drop k) ∧ ∀ j (h : j < dc.length), j < k → coB dc[j]))) (fun _ vk _ => nc + 1 - (intOf vk).toNat)
              case atStart => exact ⟨0, l - 1 - (np : Int) - (nc : Int), rfl, rfl, by omega, by omega, by omega, Lib.hid ⟨HB2.out, fun h => ⟨by simp only [List.drop_zero]; omega, fun j _ h => by omega⟩⟩⟩
              case round =>
                clear HB2
                obtain ⟨k, l2, rfl, rfl, hkn, hl23, hl24, hK⟩ := hrel
                have HB := Lib.hid hK.out.1
                have HG := Lib.hid hK.out.2
                clear hK
                have q2 : wr.cell? ⟨wa.heap.size, 2, none⟩ = some (.slice ac nc cc) := by
                  rw [HB.out.cell (p := ⟨wa.heap.size, 2, none⟩) (Nat.lt_succ_self _), cell_of_row _ wa.heap.size 2 _ _ _ (heap_alloc_new wa _)]
                  rfl

                by_cases hkk : (k : Int) < (nc : Int)
                · have hk0 : (0 : Int) ≤ (k : Int) := by omega
                  have hklt : k < dc.length := by have := HNC.out; omega
                  obtain ⟨b2, o2, rfl, hb2, ht2⟩ := HTC.out (by omega)
                  obtain ⟨cn, ca, cv, hce, hcn, c0, c1, hcs⟩ := co_at ht2 hklt
                  have HKE : Hid (∀ h : k < dc.length, dc[k] = (cn, ca)) := Lib.hid fun _ => hce
                  obtain ⟨hnax, aa, cca, rfl, -, hta⟩ := hcs
                  obtain ⟨na, hna⟩ : ∃ na, na = ca.len := ⟨_, rfl⟩
                  rw [← hna] at c1 hta hnax
                  have HNA := Lib.hid hna
                  have HTA := Lib.hid hta
                  have K1 := Lib.hid c1
                  have hna' : (na : Int) ≤ 140737488355328 := by have : na ≤ 140737488355328 := hnax; omega
                  have hcn' : (cn.size : Int) ≤ 140737488355328 := by have : cn.size ≤ 140737488355328 := hcn; omega
                  have c0' : wr.cell? ⟨b2, o2 + k * 2, none⟩ = some (.string cn) := ((below_of_kept HB.out).cell (p := ⟨b2, _, none⟩) hb2).trans c0
                  have c1' : wr.cell? ⟨b2, o2 + k * 2 + 1, none⟩ = some (.slice aa na cca) := ((below_of_kept HB.out).cell (p := ⟨b2, _, none⟩) hb2).trans c1
                  clear ht2 hklt hce hta hna hnax hcn c0 c1
                  by_cases hmany : (8 : Int) < (na : Int)
                  · go_wp2_with fail
                    go_ret
                    exact smallRet_no (rfl) (HBW.out.trans ((below_of_kept HB.out).mono HBW.out.size))
                  · by_cases hname2 : (60 : Int) < (cn.size : Int)
                    · go_wp2_with fail
                      go_ret
                      exact smallRet_no (rfl) (HBW.out.trans ((below_of_kept HB.out).mono HBW.out.size))
                    · go_wp2_with fail
                      go_loopw [5, 9] (fun vl vj wr => ∃ (j : Nat) (l3 : Int) (r : Ty), vl = .int .i64 l3 ∧ vj = .int .i64 (j : Int) ∧ j + r.len = na ∧ -1 ≤ l3 ∧ l3 ≤ 4294967296 ∧ Hid (Below (wa.heap.size + 1) (wa.alloc (.cells #[.string dn, .slice ap np cp, .slice (some ⟨b2, o2, none⟩) nc cc] 45)) wr ∧ (0 < r.len → ∃ b o, aa = some ⟨b, o, none⟩ ∧ b < wa.heap.size ∧ TyIn wr r b o j) ∧ (0 ≤ l3 → 0 ≤ l2 ∧ l3 + ca.cost ≤ l2 + r.cost ∧ (r.tall ≤ 31 → ca.tall ≤ 31) ∧ (r.brief → ca.brief)))) (fun _ vj _ => na + 1 - (intOf vj).toNat)
                      case atStart => exact ⟨0, l2, ca, rfl, rfl, by rw [Nat.zero_add]; exact HNA.out.symm, hl23, hl24, Lib.hid ⟨HB.out, fun h => by
                        obtain ⟨b, o, e1, e2, e3⟩ := HTA.out (by rw [HNA.out]; exact h)
                        exact ⟨b, o, e1, e2, TyIn.below (below_of_kept HB.out) e2 e3⟩, fun h => ⟨h, by omega, id, id⟩⟩⟩
                      case round =>
                        clear HB
                        obtain ⟨j, l3, r, rfl, rfl, hjr, hl33, hl34, hJ⟩ := hrel
                        have HB := Lib.hid hJ.out.1
                        have HJI := Lib.hid hJ.out.2.1
                        have HJF := Lib.hid hJ.out.2.2
                        clear hJ
                        have q2 : wr.cell? ⟨wa.heap.size, 2, none⟩ = some (.slice (some ⟨b2, o2, none⟩) nc cc) := by
                          rw [HB.out.cell (p := ⟨wa.heap.size, 2, none⟩) (Nat.lt_succ_self _), cell_of_row _ wa.heap.size 2 _ _ _ (heap_alloc_new wa _)]
                          rfl

                        have c1' : wr.cell? ⟨b2, o2 + k * 2 + 1, none⟩ = some (.slice aa na cca) := ((below_of_kept HB.out).cell (p := ⟨b2, _, none⟩) hb2).trans K1.out
                        by_cases hl0 : l3 < 0
                        · have hl0' : ¬ (0 : Int) ≤ l3 := by omega
                          by_cases hjj : (j : Int) < (na : Int)
                          · go_wp2_with fail
                            go_roundw
                            case rel => exact ⟨k + 1, l3, rfl, by go_num, by omega, hl33, hl34, Lib.hid ⟨HB.out, fun h => absurd h hl0'⟩⟩
                            case measure => simp [intOf]; omega
                          · go_wp2_with fail
                            go_roundw
                            case rel => exact ⟨k + 1, l3, rfl, by go_num, by omega, hl33, hl34, Lib.hid ⟨HB.out, fun h => absurd h hl0'⟩⟩
                            case measure => simp [intOf]; omega
                        · have hl0' : (0 : Int) ≤ l3 := by omega
                          cases r with
                          | nil =>
                            simp only [Ty.len, Nat.add_zero] at hjr
                            have hjj : ¬ (j : Int) < (na : Int) := by omega
                            go_wp2_with fail
                            go_roundw
                            case rel =>
                              refine ⟨k + 1, l3, rfl, by go_num, by omega, hl33, hl34, Lib.hid ⟨HB.out, fun hq0 => ?_⟩⟩
                              obtain ⟨f1, f2, f3, f4⟩ := HJF.out hq0
                              obtain ⟨g1, g2⟩ := HG.out f1
                              have hkl : k < dc.length := by have := HNC.out; omega
                              rw [coCost_drop hkl, HKE.out hkl] at g1
                              simp only [Ty.cost, Ty.tall, Ty.brief] at f2 f3 f4 g1
                              have hna := HNA.out
                              refine ⟨by omega, fun j' hj' h => ?_⟩
                              by_cases hji : j' = k
                              · subst hji
                                rw [HKE.out hj']
                                show cn.size ≤ 60 ∧ ca.len ≤ 8 ∧ ca.brief ∧ ca.tall ≤ 31
                                exact ⟨by omega, by omega, f4 trivial, f3 (by omega)⟩
                              · exact g2 j' hj' (by omega)
                            case measure => simp [intOf]; omega
                          | node tn ta r =>
                            simp only [Ty.len] at hjr
                            obtain ⟨b4, o4, rfl, hb4, ht4⟩ := HJI.out (by simp only [Ty.len]; omega)
                            obtain ⟨htn, tv, t0, t1, hts, htr⟩ := tyIn_cells ht4
                            have HTR := Lib.hid htr
                            have hb4' : b4 < wr.heap.size := by have := kept_size HB.out; omega
                            have hjj : (j : Int) < (na : Int) := by omega
                            have hj0 : (0 : Int) ≤ (j : Int) := by omega
                            have HC := Lib.hid (mktyp_any (1 + ta.cost) tn ta (Nat.le_refl _) tv l3 0 wr htn hts (by omega) (by omega) (by omega) (by omega))
                            clear ht4 hts htr htn HJI
                            go_wp2_with fail
                            refine HC.out.mono ?_
                            rintro e w2 ⟨q, rfl, hbq, hq1, hq2, hq3⟩
                            have HBY := Lib.hid hbq
                            have HQ := Lib.hid hq3
                            clear hbq hq3 HC
                            go_wp2_with fail
                            go_roundw
                            case rel =>
                              refine ⟨j + 1, q, r, rfl, by go_num, by omega, hq1, hq2, Lib.hid ⟨HB.out.trans (HBY.out.mono (kept_size HB.out)), fun _ => ⟨b4, o4, rfl, hb4, TyIn.below HBY.out hb4' HTR.out⟩, fun hq0 => ?_⟩⟩
                              obtain ⟨f1, f2, f3, f4⟩ := HJF.out hl0'
                              obtain ⟨g1, g2, g3, g4⟩ := HQ.out hq0
                              simp only [Ty.cost, Ty.tall, Ty.brief] at f2 f3 f4
                              exact ⟨f1, by omega, fun h => f3 (by omega), fun h => f4 ⟨g3, g4, h⟩⟩
                            case measure => simp [intOf]; omega
                · have hkn2 : k = nc := by omega
                  have HKN := Lib.hid hkn2
                  have HB2 : Hid (Below (wa.heap.size + 1) (wa.alloc (.cells #[.string dn, .slice ap np cp, .slice ac nc cc] 45)) wr) := Lib.hid HB.out
                  have HG2 : Hid (0 ≤ l2 → l2 + coCost dc ≤ (l - 1 - (np : Int) - (nc : Int)) + coCost (dc.drop nc) ∧ ∀ j (h : j < dc.length), j < nc → coB dc[j]) := Lib.hid (by have h := HG.out; rw [hkn2] at h; exact h)
                  clear hkn2 HG
                  have HG := Lib.hid HG2.out
                  clear HG2 HB
                  go_wp2_with fail
                  go_loopw [10] (fun vk wr => ∃ (k : Nat), vk = .int .i64 (k : Int) ∧ k ≤ np ∧ Hid (Below (wa.heap.size + 1) (wa.alloc (.cells #[.string dn, .slice ap np cp, .slice ac nc cc] 45)) wr ∧ ∀ j (h : j < dp.length), j < k → dp[j].size ≤ 60)) (fun vk _ => np + 1 - (intOf vk).toNat)
                  case atStart => exact ⟨0, rfl, by omega, Lib.hid ⟨HB2.out, fun j _ h => by omega⟩⟩
                  case round =>
                    clear HB2
                    obtain ⟨k, rfl, hkn, hK⟩ := hrel
                    have HB := Lib.hid hK.out.1
                    have HKK := Lib.hid hK.out.2
                    clear hK
                    have q1 : wr.cell? ⟨wa.heap.size, 1, none⟩ = some (.slice ap np cp) := by
                      rw [HB.out.cell (p := ⟨wa.heap.size, 1, none⟩) (Nat.lt_succ_self _), cell_of_row _ wa.heap.size 1 _ _ _ (heap_alloc_new wa _)]
                      rfl

                    by_cases hkk : (k : Int) < (np : Int)
                    · have hk0 : (0 : Int) ≤ (k : Int) := by omega
                      have hklt : k < dp.length := by have := HNP.out; omega
                      obtain ⟨b3, o3, rfl, hb3, ht3⟩ := HTP.out (by omega)
                      obtain ⟨t1, t2⟩ := ht3 k hklt
                      obtain ⟨s, hs⟩ : ∃ s, s = dp[k] := ⟨_, rfl⟩
                      rw [← hs] at t1 t2
                      have HS : Hid (∀ h : k < dp.length, s = dp[k]) := Lib.hid fun _ => hs
                      have ht2 : (s.size : Int) ≤ 140737488355328 := by have : s.size ≤ 140737488355328 := t2; omega
                      have q2 : wr.cell? ⟨b3, o3 + k, none⟩ = some (.string s) := ((below_of_kept HB.out).cell (p := ⟨b3, o3 + k, none⟩) hb3).trans t1
                      clear hs t1 t2 ht3 hklt
                      by_cases hsz : (60 : Int) < (s.size : Int)
                      · go_wp2_with fail
                        go_ret
                        exact smallRet_no (rfl) (HBW.out.trans ((below_of_kept HB.out).mono HBW.out.size))
                      · go_wp2_with fail
                        go_roundw
                        case rel =>
                          refine ⟨k + 1, by go_num, by omega, Lib.hid ⟨HB.out, fun j hj h => ?_⟩⟩
                          by_cases hji : j = k
                          · subst hji; have := HS.out hj; rw [← this]; omega
                          · exact HKK.out j hj (by omega)
                        case measure => simp [intOf]; omega
                    · have HDP : Hid (txBrief dp) := Lib.hid fun j hj => HKK.out j hj (by have := HNP.out; omega)
                      clear HKK
                      go_wp2_with fail
                      go_roundw
                      case rel =>
                        refine ⟨i + 1, l2, rfl, by go_num, by omega, hl23, hl24, Lib.hid ⟨HBA0.out.trans ((below_of_kept HB.out).mono (kept_size HBA0.out)), fun hq0 => ?_⟩⟩
                        obtain ⟨f1, f2⟩ := HF.out (by omega)
                        obtain ⟨g1, g2⟩ := HG.out hq0
                        have hil : i < ds.length := by have := HND.out; omega
                        rw [daCost_drop hil, HE.out hil] at f1
                        simp only at f1
                        have hnp := HNP.out
                        have hnc := HNC.out
                        rw [List.drop_eq_nil_of_le (by omega)] at g1
                        simp only [coCost] at g1
                        refine ⟨by omega, fun j hj h => ?_⟩
                        by_cases hji : j = i
                        · subst hji
                          rw [HE.out hj]
                          show dn.size ≤ 60 ∧ txBrief dp ∧ coBrief dc
                          exact ⟨by omega, HDP.out, fun k hk => g2 k hk (by omega)⟩
                        · exact f2 j hj (by omega)
                      case measure => simp [intOf]; omega
        · have hl5 : i = nd := by omega
          have HF2 : Hid (0 ≤ l → l + daCost ds ≤ most + daCost (ds.drop nd) ∧ ∀ j (h : j < ds.length), j < nd → daB ds[j]) := Lib.hid (by have h := HF.out; rw [hl5] at h; exact h)
          clear HF hl5
          have HF := Lib.hid HF2.out
          clear HF2 HBW
          go_wp2_with fail
          go_loopw [5, 11] (fun vl vi wr => ∃ (i : Nat) (l : Int), vl = .int .i64 l ∧ vi = .int .i64 (i : Int) ∧ i ≤ nf ∧ -1 ≤ l ∧ l ≤ 4294967296 ∧ Hid (Below (w.heap.size + 1) (w.alloc (.cells #[.slice ad nd cd, .slice af nf cf] 25)) wr ∧ (0 ≤ l → l + daCost ds + deCost fs ≤ most + deCost (fs.drop i) ∧ daBrief ds ∧ ∀ j (h : j < fs.length), j < i → deB fs[j]))) (fun _ vi _ => nf + 1 - (intOf vi).toNat)
          case atStart => exact ⟨0, l, rfl, rfl, by omega, hl3, hl4, Lib.hid ⟨HB.out, fun h => by
            obtain ⟨f1, f2⟩ := HF.out h
            have := HND.out
            rw [List.drop_eq_nil_of_le (by omega)] at f1
            simp only [daCost] at f1
            exact ⟨by simp only [List.drop_zero]; omega, fun j hj => f2 j hj (by omega), fun j _ h => by omega⟩⟩⟩
          case round =>
            clear HB HF hl3 hl4
            obtain ⟨i2, l, rfl, rfl, hin2, hl3, hl4, hR⟩ := hrel
            obtain ⟨wa, hwa⟩ : ∃ wa, wa = wr := ⟨_, rfl⟩
            subst hwa
            have HBW : Hid (Below w.heap.size w wa) := Lib.hid (below_of_kept hR.out.1)
            have HB := Lib.hid hR.out.1
            have HF := Lib.hid hR.out.2
            clear hR
            have p1 : wa.cell? ⟨w.heap.size, 1, none⟩ = some (.slice af nf cf) := by
              rw [HB.out.cell (p := ⟨w.heap.size, 1, none⟩) (Nat.lt_succ_self _), cell_of_row _ w.heap.size 1 _ _ _ (heap_alloc_new w _)]
              rfl
            by_cases hii : (i2 : Int) < (nf : Int)
            · have hi0 : (0 : Int) ≤ (i2 : Int) := by omega
              have hilt : i2 < fs.length := by have := HNF.out; omega
              obtain ⟨b, o, rfl, hbw, ht⟩ := HVF.out (by omega)
              obtain ⟨dn, dp, op, nm, num, names, L, alts, v1, u1, u2, u3, he, hdn, c0, c1, e2, e3, e4, e5, e6, e7, hs1, hnm, hwl, hwa2, hg1, hg2, hg3⟩ := de_at (ht.below HBW.out hbw) hilt
              have HE : Hid (∀ h : i2 < fs.length, fs[i2] = (dn, dp, .expr op nm num names L alts .nil)) := Lib.hid fun _ => he
              obtain ⟨hnpx, ap, cp, rfl, -, htp⟩ := hs1
              obtain ⟨np, hnp⟩ : ∃ np, np = dp.length := ⟨_, rfl⟩
              rw [← hnp] at c1 htp hnpx
              have HNP := Lib.hid hnp
              have HTP : Hid (0 < np → ∃ b o, ap = some ⟨b, o, none⟩ ∧ b < wa.heap.size ∧ TxIn wa dp b o) := Lib.hid htp
              obtain ⟨ln1, ga1, gc1, hln1, rfl⟩ := sl_form hg1
              obtain ⟨ln2, ga2, gc2, hln2, rfl⟩ := sl_form hg2
              obtain ⟨ln3, ga3, gc3, hln3, rfl⟩ := sl_form hg3
              clear hln1 hln2 hln3
              have HX := Lib.hid (show nm.size ≤ reach ∧ _ ∧ _ ∧ _ ∧ _ ∧ _ from ⟨hnm, hwl, hwa2, hg1, hg2, hg3⟩)
              have hnp' : (np : Int) ≤ 140737488355328 := by have : np ≤ 140737488355328 := hnpx; omega
              have hdn' : (dn.size : Int) ≤ 140737488355328 := by have : dn.size ≤ 140737488355328 := hdn; omega
              have HB2 : Hid (Below (wa.heap.size + 1) (wa.alloc (.cells #[.string dn, .slice ap np cp, .int .i64 op, .string nm, .int .i64 num, .slice ga1 ln1 gc1, .slice ga2 ln2 gc2, .slice ga3 ln3 gc3] 37)) (wa.alloc (.cells #[.string dn, .slice ap np cp, .int .i64 op, .string nm, .int .i64 num, .slice ga1 ln1 gc1, .slice ga2 ln2 gc2, .slice ga3 ln3 gc3] 37))) := Lib.hid (Below.refl _ _)
              have q0 : (wa.alloc (.cells #[.string dn, .slice ap np cp, .int .i64 op, .string nm, .int .i64 num, .slice ga1 ln1 gc1, .slice ga2 ln2 gc2, .slice ga3 ln3 gc3] 37)).cell? ⟨wa.heap.size, 0, none⟩ = some (.string dn) := by rw [cell_of_row _ wa.heap.size 0 _ _ _ (heap_alloc_new wa _)]; rfl
              have q1 : (wa.alloc (.cells #[.string dn, .slice ap np cp, .int .i64 op, .string nm, .int .i64 num, .slice ga1 ln1 gc1, .slice ga2 ln2 gc2, .slice ga3 ln3 gc3] 37)).cell? ⟨wa.heap.size, 1, none⟩ = some (.slice ap np cp) := by rw [cell_of_row _ wa.heap.size 1 _ _ _ (heap_alloc_new wa _)]; rfl
              clear ht hilt he htp hnp hnpx hnm hwl hwa2 hg1 hg2 hg3 hdn
              by_cases hleft : l - (np : Int) < 0
              · go_wp2_with fail
                go_ret
                exact smallRet_no (rfl) (HBW.out.alloc HBW.out.size _)
              · by_cases hname : (60 : Int) < (dn.size : Int)
                · go_wp2_with fail
                  go_ret
                  exact smallRet_no (rfl) (HBW.out.alloc HBW.out.size _)
                · go_wp2_with fail
                  have HBA0 := Lib.hid HB.out
                  clear HB

                  go_loopw [13] (fun vk wr => ∃ (k : Nat), vk = .int .i64 (k : Int) ∧ k ≤ np ∧ Hid (Below (wa.heap.size + 1) (wa.alloc (.cells #[.string dn, .slice ap np cp, .int .i64 op, .string nm, .int .i64 num, .slice ga1 ln1 gc1, .slice ga2 ln2 gc2, .slice ga3 ln3 gc3] 37)) wr ∧ ∀ j (h : j < dp.length), j < k → dp[j].size ≤ 60)) (fun vk _ => np + 1 - (intOf vk).toNat)
                  case atStart => exact ⟨0, rfl, by omega, Lib.hid ⟨HB2.out, fun j _ h => by omega⟩⟩
                  case round =>
                    clear HB2
                    obtain ⟨k, rfl, hkn, hK⟩ := hrel
                    have HB := Lib.hid hK.out.1
                    have HKK := Lib.hid hK.out.2
                    clear hK
                    have q1 : wr.cell? ⟨wa.heap.size, 1, none⟩ = some (.slice ap np cp) := by
                      rw [HB.out.cell (p := ⟨wa.heap.size, 1, none⟩) (Nat.lt_succ_self _), cell_of_row _ wa.heap.size 1 _ _ _ (heap_alloc_new wa _)]
                      rfl

                    by_cases hkk : (k : Int) < (np : Int)
                    · have hk0 : (0 : Int) ≤ (k : Int) := by omega
                      have hklt : k < dp.length := by have := HNP.out; omega
                      obtain ⟨b3, o3, rfl, hb3, ht3⟩ := HTP.out (by omega)
                      obtain ⟨t1, t2⟩ := ht3 k hklt
                      obtain ⟨s, hs⟩ : ∃ s, s = dp[k] := ⟨_, rfl⟩
                      rw [← hs] at t1 t2
                      have HS : Hid (∀ h : k < dp.length, s = dp[k]) := Lib.hid fun _ => hs
                      have ht2 : (s.size : Int) ≤ 140737488355328 := by have : s.size ≤ 140737488355328 := t2; omega
                      have q2 : wr.cell? ⟨b3, o3 + k, none⟩ = some (.string s) := ((below_of_kept HB.out).cell (p := ⟨b3, o3 + k, none⟩) hb3).trans t1
                      clear hs t1 t2 ht3 hklt
                      by_cases hsz : (60 : Int) < (s.size : Int)
                      · go_wp2_with fail
                        go_ret
                        exact smallRet_no (rfl) (HBW.out.trans ((below_of_kept HB.out).mono HBW.out.size))
                      · go_wp2_with fail
                        go_roundw
                        case rel =>
                          refine ⟨k + 1, by go_num, by omega, Lib.hid ⟨HB.out, fun j hj h => ?_⟩⟩
                          by_cases hji : j = k
                          · subst hji; have := HS.out hj; rw [← this]; omega
                          · exact HKK.out j hj (by omega)
                        case measure => simp [intOf]; omega
                    · have HDP : Hid (txBrief dp) := Lib.hid fun j hj => HKK.out j hj (by have := HNP.out; omega)
                      clear HKK
                      have z2 : wr.cell? ⟨wa.heap.size, 2, none⟩ = some (.int .i64 op) := by
                        rw [HB.out.cell (p := ⟨wa.heap.size, 2, none⟩) (Nat.lt_succ_self _), cell_of_row _ wa.heap.size 2 _ _ _ (heap_alloc_new wa _)]
                        rfl
                      have z3 : wr.cell? ⟨wa.heap.size, 3, none⟩ = some (.string nm) := by
                        rw [HB.out.cell (p := ⟨wa.heap.size, 3, none⟩) (Nat.lt_succ_self _), cell_of_row _ wa.heap.size 3 _ _ _ (heap_alloc_new wa _)]
                        rfl
                      have z4 : wr.cell? ⟨wa.heap.size, 4, none⟩ = some (.int .i64 num) := by
                        rw [HB.out.cell (p := ⟨wa.heap.size, 4, none⟩) (Nat.lt_succ_self _), cell_of_row _ wa.heap.size 4 _ _ _ (heap_alloc_new wa _)]
                        rfl
                      have z5 : wr.cell? ⟨wa.heap.size, 5, none⟩ = some (.slice ga1 ln1 gc1) := by
                        rw [HB.out.cell (p := ⟨wa.heap.size, 5, none⟩) (Nat.lt_succ_self _), cell_of_row _ wa.heap.size 5 _ _ _ (heap_alloc_new wa _)]
                        rfl
                      have z6 : wr.cell? ⟨wa.heap.size, 6, none⟩ = some (.slice ga2 ln2 gc2) := by
                        rw [HB.out.cell (p := ⟨wa.heap.size, 6, none⟩) (Nat.lt_succ_self _), cell_of_row _ wa.heap.size 6 _ _ _ (heap_alloc_new wa _)]
                        rfl
                      have z7 : wr.cell? ⟨wa.heap.size, 7, none⟩ = some (.slice ga3 ln3 gc3) := by
                        rw [HB.out.cell (p := ⟨wa.heap.size, 7, none⟩) (Nat.lt_succ_self _), cell_of_row _ wa.heap.size 7 _ _ _ (heap_alloc_new wa _)]
                        rfl

                      have HBX : Hid (Below wa.heap.size wa wr) := Lib.hid (below_of_kept HB.out)
                      have HC := Lib.hid (mkexpr_any (1 + names.length + L.cost + alts.cost) op nm num names L alts (Nat.le_refl _) (.slice ga1 ln1 gc1) (.slice ga2 ln2 gc2) (.slice ga3 ln3 gc3) (l - (np : Int)) 0 wr HX.out.1 HX.out.2.1 HX.out.2.2.1 (HX.out.2.2.2.1.mono HBX.out.size fun _ _ p q => TxIn.below HBX.out p q) (HX.out.2.2.2.2.1.mono HBX.out.size fun _ _ p q => ExIn.below HBX.out p q) (HX.out.2.2.2.2.2.mono HBX.out.size fun _ _ p q => ExIn.below HBX.out p q) (by omega) (by omega) (by omega) (by omega))
                      go_wp2_with fail
                      refine HC.out.mono ?_
                      rintro e w2 ⟨q, rfl, hb2, hq1, hq2, hq3⟩
                      have HBY := Lib.hid hb2
                      have HQ := Lib.hid hq3
                      clear hb2 hq3 HC
                      go_wp2_with fail
                      go_roundw
                      case rel =>
                        refine ⟨i2 + 1, q, rfl, by go_num, by omega, hq1, hq2, Lib.hid ⟨HBA0.out.trans ((HBX.out.mono (kept_size HBA0.out)).trans (HBY.out.mono (Nat.le_trans (kept_size HBA0.out) HBX.out.size))), fun hq0 => ?_⟩⟩
                        obtain ⟨f1, f2, f3⟩ := HF.out (by omega)
                        obtain ⟨g1, g2, g3, g4, g5, g6, g7⟩ := HQ.out hq0
                        have hil : i2 < fs.length := by have := HNF.out; omega
                        rw [deCost_drop hil, HE.out hil] at f1
                        simp only [Ex.cost] at f1
                        have hnp := HNP.out
                        refine ⟨by omega, f2, fun j hj h => ?_⟩
                        by_cases hji : j = i2
                        · subst hji
                          rw [HE.out hj]
                          show dn.size ≤ 60 ∧ txBrief dp ∧ (Ex.expr op nm num names L alts .nil).brief ∧ (Ex.expr op nm num names L alts .nil).tall ≤ 31
                          refine ⟨by omega, HDP.out, ⟨g4, g5, g6, g7, trivial⟩, ?_⟩
                          simp only [Ex.tall]
                          omega
                        · exact f3 j hj (by omega)
                      case measure => simp [intOf]; omega
            · have hl5 : i2 = nf := by omega
              have HL5 := Lib.hid hl5
              clear hl5
              by_cases hl0 : (0 : Int) ≤ l
              · go_wp2_with fail
                go_ret
                refine smallRet_yes (by go_num) HBW.out ?_
                obtain ⟨f1, f2, f3⟩ := HF.out hl0
                have := HNF.out
                have := HND.out
                have := HL5.out
                rw [List.drop_eq_nil_of_le (by omega)] at f1
                simp only [deCost] at f1
                exact ⟨by omega, by omega, by omega, f2, fun j hj => f3 j hj (by omega)⟩
              · go_wp2_with fail
                go_ret
                exact smallRet_no (by go_num) (HBW.out)
end Go.Proofs.YtledjcplbldokaaGreatDoor
