/- gristmillref.SameExpr of the same expression. No conditions. -/
import Derived.Test.YtledjcplbldokaaGreatDoorRs2
import Derived.Deep.RegionHeld3
import Derived.Deep.DrawnRows
namespace Go.Proofs.YtledjcplbldokaaGreatDoor
open Go.ChangeShapes Go.WideShapes Go.ChangeAt Go.RowKit
attribute [local go_sem ↓] Go.wp_at_zero Go.wp_at_succ

theorem al_same {w : World} {e : Ex} {take : Int} {anm : ByteArray} {anum : Int} {v0 : Value} {op : Int} {nm : ByteArray} {num : Int} {v1 v2 v3 : Value} {take' : Int} {anm' : ByteArray} {anum' : Int} {v0' : Value} {op' : Int} {nm' : ByteArray} {num' : Int} {v1' v2' v3' : Value}
    (h : AlV w e (.agg #[.int .i64 take, .string anm, .int .i64 anum, v0, .int .i64 op, .string nm, .int .i64 num, v1, v2, v3])) (h' : AlV w e (.agg #[.int .i64 take', .string anm', .int .i64 anum', v0', .int .i64 op', .string nm', .int .i64 num', v1', v2', v3'])) : op = op' ∧ nm = nm' ∧ num = num' := by
  obtain ⟨_, _, _, _, ae, _, _, _, _, _, _, _, _, _, _, _, _, _, _, _, rfl, e1, _, _, _, _, h5⟩ := h
  obtain ⟨_, _, _, _, ae', _, _, _, _, _, _, _, _, _, _, _, _, _, _, _, e2, e3, _, _, _, _, h5'⟩ := h'
  injection e2 with _ _ _ _ e2 _
  subst e2
  obtain ⟨_, _, _, _, _, _, _, _, _, _, _, _, _, _, _, rfl, g1, _⟩ := h5
  obtain ⟨_, _, _, _, _, _, _, _, _, _, _, _, _, _, _, g2, g3, _⟩ := h5'
  injection g2 with q1 q2 q3
  subst q1 q2 q3
  simp at e1 e3 g1 g3
  obtain ⟨-, -, -, -, r1, r2, r3, -⟩ := e1
  obtain ⟨-, -, -, -, s1, s2, s3, -⟩ := e3
  obtain ⟨t1, t2, t3, -⟩ := g1
  obtain ⟨u1, u2, u3, -⟩ := g3
  exact ⟨by omega, by rw [r2, t2, s2, u2], by omega⟩
theorem al_parts {w : World} {take : Int} {anm : ByteArray} {anum : Int} {anames : List ByteArray} {ae r : Ex} {take' : Int} {anm' : ByteArray} {anum' : Int} {v0 : Value} {op : Int} {nm : ByteArray} {num : Int} {v1 v2 v3 : Value}
    (h : AlV w (.alt take anm anum anames ae r) (.agg #[.int .i64 take', .string anm', .int .i64 anum', v0, .int .i64 op, .string nm, .int .i64 num, v1, v2, v3])) : (SlAt w v0 anames.length fun b o => TxIn w anames b o) ∧ ExV w ae (.agg #[.int .i64 op, .string nm, .int .i64 num, v1, v2, v3]) := by
  obtain ⟨_, _, _, _, _, _, _, _, _, _, _, _, _, _, _, _, _, _, _, _, e1, e2, _, _, _, h4, h5⟩ := h
  injection e1 with _ _ _ e3 e4 _
  subst e3 e4
  simp at e2
  obtain ⟨-, -, -, rfl, rfl, rfl, rfl, rfl, rfl, rfl⟩ := e2
  exact ⟨h4, h5⟩
set_option maxRecDepth 100000 in
set_option maxHeartbeats 8000000 in
theorem refExpr_any (m : Nat) : ∀ e : Ex, e.cost ≤ m → ∀ (v v' : Value) (w : World), ExV w e v → ExV w e v' → Calls Tryz.prog 24 #[v, v'] w (Grew (.bool true) w) := by
  induction m with
  | zero =>
    intro e h v v' w hv
    obtain ⟨op, nm, num, names, L, alts, n1, a1, c1, n2, a2, c2, n3, a3, c3, rfl, -⟩ := hv
    simp only [Ex.cost] at h; omega
  | succ m IH =>
    intro e hcost v v' w hv hv'
    have HI := Lib.hid IH
    obtain ⟨op, nm, num, names, L, alts, n1, a1, c1, n2, a2, c2, n3, a3, c3, rfl, rfl, -, -, hnm, hw2, hw3, hs1, hs2, hs3⟩ := hv
    obtain ⟨opp, nmp, nump, namesp, Lp, altsp, n1p, a1p, c1p, n2p, a2p, c2p, n3p, a3p, c3p, he, rfl, -, -, hnmp, hw2p, hw3p, hs1p, hs2p, hs3p⟩ := hv'
    injection he with q1 q2 q3 q4 q5 q6
    subst q1 q2 q3 q4 q5 q6
    have hl2 := hs2.1
    have hl3 := hs3.1
    obtain ⟨-, _, _, z1, -, hx2⟩ := hs2
    obtain ⟨-, _, _, z2, -, hx2p⟩ := hs2p
    obtain ⟨-, _, _, z3, -, hx3⟩ := hs3
    obtain ⟨-, _, _, z4, -, hx3p⟩ := hs3p
    injection z1 with y1 y2 y3
    injection z2 with y4 y5 y6
    injection z3 with y7 y8 y9
    injection z4 with y10 y11 y12
    subst y1 y3 y4 y6 y7 y9 y10 y12
    have z5 : n2 = n2p := by omega
    have z6 : n3 = n3p := by omega
    subst z5 z6
    have HN2 := Lib.hid y2
    have HN3 := Lib.hid y8
    have HI2 := Lib.hid hx2
    have HI2p := Lib.hid hx2p
    have HI3 := Lib.hid hx3
    have HI3p := Lib.hid hx3p
    have HW2 := Lib.hid hw2
    have HW3 := Lib.hid hw3
    have HCM : Hid (L.cost ≤ m ∧ alts.cost ≤ m) := Lib.hid (by simp only [Ex.cost] at hcost; omega)
    have hb2 : (n2 : Int) ≤ 140737488355328 := by rw [y2]; have : L.len ≤ 140737488355328 := hl2; omega
    have hb3 : (n3 : Int) ≤ 140737488355328 := by rw [y8]; have : alts.len ≤ 140737488355328 := hl3; omega
    clear IH hcost y2 y5 y8 y11 hl2 hl3 hx2 hx2p hx3 hx3p hw2 hw3 hw2p hw3p
    have HB0 : Hid (Below w.heap.size w ((w.alloc (.cells #[.int .i64 op, .string nm, .int .i64 num, .slice a1 n1 c1, .slice a2 n2 c2, .slice a3 n3 c3] 35)).alloc (.cells #[.int .i64 op, .string nm, .int .i64 num, .slice a1p n1p c1p, .slice a2p n2 c2p, .slice a3p n3 c3p] 35))) := Lib.hid (((Below.refl _ w).alloc (Nat.le_refl _) _).alloc (by simp) _)
    have hA := box2a w #[.int .i64 op, .string nm, .int .i64 num, .slice a1 n1 c1, .slice a2 n2 c2, .slice a3 n3 c3] #[.int .i64 op, .string nm, .int .i64 num, .slice a1p n1p c1p, .slice a2p n2 c2p, .slice a3p n3 c3p] 35 35
    have hB := box2b w #[.int .i64 op, .string nm, .int .i64 num, .slice a1 n1 c1, .slice a2 n2 c2, .slice a3 n3 c3] #[.int .i64 op, .string nm, .int .i64 num, .slice a1p n1p c1p, .slice a2p n2 c2p, .slice a3p n3 c3p] 35 35
    have A0 := hA 0 (.int .i64 op) rfl
    have A1 := hA 1 (.string nm) rfl
    have A2 := hA 2 (.int .i64 num) rfl
    have A3 := hA 3 (.slice a1 n1 c1) rfl
    have A4 := hA 4 (.slice a2 n2 c2) rfl
    have A5 := hA 5 (.slice a3 n3 c3) rfl
    have B0 := hB 0 (.int .i64 op) rfl
    have B1 := hB 1 (.string nm) rfl
    have B2 := hB 2 (.int .i64 num) rfl
    have B3 := hB 3 (.slice a1p n1p c1p) rfl
    have B4 := hB 4 (.slice a2p n2 c2p) rfl
    have B5 := hB 5 (.slice a3p n3 c3p) rfl
    clear hA hB
    have HA4 := Lib.hid A4
    have HA5 := Lib.hid A5
    have HB4 := Lib.hid B4
    have HB5 := Lib.hid B5
    have HC := Lib.hid (refTexts_any names _ _ ((w.alloc (.cells #[.int .i64 op, .string nm, .int .i64 num, .slice a1 n1 c1, .slice a2 n2 c2, .slice a3 n3 c3] 35)).alloc (.cells #[.int .i64 op, .string nm, .int .i64 num, .slice a1p n1p c1p, .slice a2p n2 c2p, .slice a3p n3 c3p] 35)) (hs1.mono HB0.out.size fun _ _ p q => TxIn.below HB0.out p q) (hs1p.mono HB0.out.size fun _ _ p q => TxIn.below HB0.out p q))
    have hq1 : (nm.toList != nm.toList) = false := by simp
    clear hs1 hs1p
    go_enter Tryz.func24, Tryz.ntmps24
    go_wp2_with fail
    refine HC.out.mono ?_
    rintro e w2 ⟨rfl, hb2'⟩
    have A4 := (hb2'.cell (p := ⟨w.heap.size, 4, none⟩) (by simp <;> omega)).trans A4
    have B4 := (hb2'.cell (p := ⟨w.heap.size + 1, 4, none⟩) (by simp)).trans B4
    have A5 := (hb2'.cell (p := ⟨w.heap.size, 5, none⟩) (by simp <;> omega)).trans A5
    have B5 := (hb2'.cell (p := ⟨w.heap.size + 1, 5, none⟩) (by simp)).trans B5
    have HK : Hid (Below (w.heap.size + 2) ((w.alloc (.cells #[.int .i64 op, .string nm, .int .i64 num, .slice a1 n1 c1, .slice a2 n2 c2, .slice a3 n3 c3] 35)).alloc (.cells #[.int .i64 op, .string nm, .int .i64 num, .slice a1p n1p c1p, .slice a2p n2 c2p, .slice a3p n3 c3p] 35)) w2) := Lib.hid (hb2'.mono (by simp))
    clear hb2' HC
    go_wp2_with fail
    go_loopw [5] (fun vi wr => ∃ (i : Nat) (r : Ex), vi = .int .i64 (i : Int) ∧ i + r.len = n2 ∧ Hid (Below (w.heap.size + 2) ((w.alloc (.cells #[.int .i64 op, .string nm, .int .i64 num, .slice a1 n1 c1, .slice a2 n2 c2, .slice a3 n3 c3] 35)).alloc (.cells #[.int .i64 op, .string nm, .int .i64 num, .slice a1p n1p c1p, .slice a2p n2 c2p, .slice a3p n3 c3p] 35)) wr) ∧ Hid (r.cost ≤ m) ∧ Hid (r.wf true) ∧ Hid (0 < r.len → ∃ b o, a2 = some ⟨b, o, none⟩ ∧ b < w.heap.size ∧ ExIn w r b o i) ∧ Hid (0 < r.len → ∃ b o, a2p = some ⟨b, o, none⟩ ∧ b < w.heap.size ∧ ExIn w r b o i)) (fun vi _ => n2 + 1 - (intOf vi).toNat)
    case atStart => exact ⟨0, L, rfl, by rw [Nat.zero_add]; exact HN2.out.symm, HK, Lib.hid (by have := HCM.out; omega), HW2, HI2, HI2p⟩
    case round =>
      clear HK
      obtain ⟨i, r, rfl, hir, HK, HCO, HWF, HIN, HINp⟩ := hrel
      have HB : Hid (Below w.heap.size w wr) := Lib.hid (HB0.out.trans (HK.out.mono (by omega)))
      have k4 : wr.cell? ⟨w.heap.size, 4, none⟩ = some (.slice a2 n2 c2) := (HK.out.cell (p := ⟨w.heap.size, 4, none⟩) (by simp)).trans HA4.out
      have k4p : wr.cell? ⟨w.heap.size + 1, 4, none⟩ = some (.slice a2p n2 c2p) := (HK.out.cell (p := ⟨w.heap.size + 1, 4, none⟩) (by simp)).trans HB4.out
      cases r with
      | nil =>
        simp only [Ex.len, Nat.add_zero] at hir
        have hii : ¬ (i : Int) < (n2 : Int) := by omega
        go_wp2_with fail
        go_loopw [6] (fun vi wr => ∃ (i : Nat) (r : Ex), vi = .int .i64 (i : Int) ∧ i + r.len = n3 ∧ Hid (Below (w.heap.size + 2) ((w.alloc (.cells #[.int .i64 op, .string nm, .int .i64 num, .slice a1 n1 c1, .slice a2 n2 c2, .slice a3 n3 c3] 35)).alloc (.cells #[.int .i64 op, .string nm, .int .i64 num, .slice a1p n1p c1p, .slice a2p n2 c2p, .slice a3p n3 c3p] 35)) wr) ∧ Hid (r.cost ≤ m) ∧ Hid (r.wf false) ∧ Hid (0 < r.len → ∃ b o, a3 = some ⟨b, o, none⟩ ∧ b < w.heap.size ∧ ExIn w r b o i) ∧ Hid (0 < r.len → ∃ b o, a3p = some ⟨b, o, none⟩ ∧ b < w.heap.size ∧ ExIn w r b o i)) (fun vi _ => n3 + 1 - (intOf vi).toNat)
        case atStart => exact ⟨0, alts, rfl, by rw [Nat.zero_add]; exact HN3.out.symm, HK, Lib.hid (by have := HCM.out; omega), HW3, HI3, HI3p⟩
        case round =>
          clear HK
          obtain ⟨i, r, rfl, hir, HK, HCO, HWF, HIN, HINp⟩ := hrel
          have HB : Hid (Below w.heap.size w wr) := Lib.hid (HB0.out.trans (HK.out.mono (by omega)))
          have k5 : wr.cell? ⟨w.heap.size, 5, none⟩ = some (.slice a3 n3 c3) := (HK.out.cell (p := ⟨w.heap.size, 5, none⟩) (by simp)).trans HA5.out
          have k5p : wr.cell? ⟨w.heap.size + 1, 5, none⟩ = some (.slice a3p n3 c3p) := (HK.out.cell (p := ⟨w.heap.size + 1, 5, none⟩) (by simp)).trans HB5.out
          cases r with
          | nil =>
            simp only [Ex.len, Nat.add_zero] at hir
            have hii : ¬ (i : Int) < (n3 : Int) := by omega
            go_wp2_with fail
            go_ret
            exact ⟨rfl, HB.out⟩
          | expr => exact absurd HWF.out.1 (by simp)
          | alt takeq anmq anumq anamesq aeq r =>
            simp only [Ex.len] at hir
            obtain ⟨b, o, rfl, hbw, ht⟩ := HIN.out (by simp only [Ex.len]; omega)
            obtain ⟨b', o', rfl, hbw', ht'⟩ := HINp.out (by simp only [Ex.len]; omega)
            obtain ⟨n0q, a0q, c0q, opq, nmq, numq, n1q, a1q, c1q, n2q, a2q, c2q, n3q, a3q, c3q, e0, e1, e2, e3, e4, e5, e6, e7, e8, e9, hv, hr⟩ := al_first HWF.out ht
            obtain ⟨n0r, a0r, c0r, opr, nmr, numr, n1r, a1r, c1r, n2r, a2r, c2r, n3r, a3r, c3r, e0p, e1p, e2p, e3p, e4p, e5p, e6p, e7p, e8p, e9p, hvp, hrp⟩ := al_first HWF.out ht'
            obtain ⟨rfl, rfl, rfl⟩ := al_same hv hvp
            obtain ⟨hq1, hq2⟩ := al_parts hv
            obtain ⟨hq1p, hq2p⟩ := al_parts hvp
            have hbel : ∀ k, wr.cell? ⟨b, k, none⟩ = w.cell? ⟨b, k, none⟩ := fun k => HB.out.cell (p := ⟨b, k, none⟩) hbw
            have hbel' : ∀ k, wr.cell? ⟨b', k, none⟩ = w.cell? ⟨b', k, none⟩ := fun k => HB.out.cell (p := ⟨b', k, none⟩) hbw'
            have e0' := (hbel _).trans e0
            have e1' := (hbel _).trans e1
            have e2' := (hbel _).trans e2
            have e3' := (hbel _).trans e3
            have e4' := (hbel _).trans e4
            have e5' := (hbel _).trans e5
            have e6' := (hbel _).trans e6
            have e7' := (hbel _).trans e7
            have e8' := (hbel _).trans e8
            have e9' := (hbel _).trans e9
            have e0p' := ((Below.refl _ wr).alloc (Nat.le_refl _) (.cells #[.int .i64 takeq, .string anmq, .int .i64 anumq, .slice a0q n0q c0q, .int .i64 opq, .string nmq, .int .i64 numq, .slice a1q n1q c1q, .slice a2q n2q c2q, .slice a3q n3q c3q] 83)).cell (p := ⟨b', _, none⟩) (Nat.lt_of_lt_of_le hbw' HB.out.size) |>.trans ((hbel' _).trans e0p)
            have e1p' := ((Below.refl _ wr).alloc (Nat.le_refl _) (.cells #[.int .i64 takeq, .string anmq, .int .i64 anumq, .slice a0q n0q c0q, .int .i64 opq, .string nmq, .int .i64 numq, .slice a1q n1q c1q, .slice a2q n2q c2q, .slice a3q n3q c3q] 83)).cell (p := ⟨b', _, none⟩) (Nat.lt_of_lt_of_le hbw' HB.out.size) |>.trans ((hbel' _).trans e1p)
            have e2p' := ((Below.refl _ wr).alloc (Nat.le_refl _) (.cells #[.int .i64 takeq, .string anmq, .int .i64 anumq, .slice a0q n0q c0q, .int .i64 opq, .string nmq, .int .i64 numq, .slice a1q n1q c1q, .slice a2q n2q c2q, .slice a3q n3q c3q] 83)).cell (p := ⟨b', _, none⟩) (Nat.lt_of_lt_of_le hbw' HB.out.size) |>.trans ((hbel' _).trans e2p)
            have e3p' := ((Below.refl _ wr).alloc (Nat.le_refl _) (.cells #[.int .i64 takeq, .string anmq, .int .i64 anumq, .slice a0q n0q c0q, .int .i64 opq, .string nmq, .int .i64 numq, .slice a1q n1q c1q, .slice a2q n2q c2q, .slice a3q n3q c3q] 83)).cell (p := ⟨b', _, none⟩) (Nat.lt_of_lt_of_le hbw' HB.out.size) |>.trans ((hbel' _).trans e3p)
            have e4p' := ((Below.refl _ wr).alloc (Nat.le_refl _) (.cells #[.int .i64 takeq, .string anmq, .int .i64 anumq, .slice a0q n0q c0q, .int .i64 opq, .string nmq, .int .i64 numq, .slice a1q n1q c1q, .slice a2q n2q c2q, .slice a3q n3q c3q] 83)).cell (p := ⟨b', _, none⟩) (Nat.lt_of_lt_of_le hbw' HB.out.size) |>.trans ((hbel' _).trans e4p)
            have e5p' := ((Below.refl _ wr).alloc (Nat.le_refl _) (.cells #[.int .i64 takeq, .string anmq, .int .i64 anumq, .slice a0q n0q c0q, .int .i64 opq, .string nmq, .int .i64 numq, .slice a1q n1q c1q, .slice a2q n2q c2q, .slice a3q n3q c3q] 83)).cell (p := ⟨b', _, none⟩) (Nat.lt_of_lt_of_le hbw' HB.out.size) |>.trans ((hbel' _).trans e5p)
            have e6p' := ((Below.refl _ wr).alloc (Nat.le_refl _) (.cells #[.int .i64 takeq, .string anmq, .int .i64 anumq, .slice a0q n0q c0q, .int .i64 opq, .string nmq, .int .i64 numq, .slice a1q n1q c1q, .slice a2q n2q c2q, .slice a3q n3q c3q] 83)).cell (p := ⟨b', _, none⟩) (Nat.lt_of_lt_of_le hbw' HB.out.size) |>.trans ((hbel' _).trans e6p)
            have e7p' := ((Below.refl _ wr).alloc (Nat.le_refl _) (.cells #[.int .i64 takeq, .string anmq, .int .i64 anumq, .slice a0q n0q c0q, .int .i64 opq, .string nmq, .int .i64 numq, .slice a1q n1q c1q, .slice a2q n2q c2q, .slice a3q n3q c3q] 83)).cell (p := ⟨b', _, none⟩) (Nat.lt_of_lt_of_le hbw' HB.out.size) |>.trans ((hbel' _).trans e7p)
            have e8p' := ((Below.refl _ wr).alloc (Nat.le_refl _) (.cells #[.int .i64 takeq, .string anmq, .int .i64 anumq, .slice a0q n0q c0q, .int .i64 opq, .string nmq, .int .i64 numq, .slice a1q n1q c1q, .slice a2q n2q c2q, .slice a3q n3q c3q] 83)).cell (p := ⟨b', _, none⟩) (Nat.lt_of_lt_of_le hbw' HB.out.size) |>.trans ((hbel' _).trans e8p)
            have e9p' := ((Below.refl _ wr).alloc (Nat.le_refl _) (.cells #[.int .i64 takeq, .string anmq, .int .i64 anumq, .slice a0q n0q c0q, .int .i64 opq, .string nmq, .int .i64 numq, .slice a1q n1q c1q, .slice a2q n2q c2q, .slice a3q n3q c3q] 83)).cell (p := ⟨b', _, none⟩) (Nat.lt_of_lt_of_le hbw' HB.out.size) |>.trans ((hbel' _).trans e9p)
            have k5q := (((Below.refl _ wr).alloc (Nat.le_refl _) (.cells #[.int .i64 takeq, .string anmq, .int .i64 anumq, .slice a0q n0q c0q, .int .i64 opq, .string nmq, .int .i64 numq, .slice a1q n1q c1q, .slice a2q n2q c2q, .slice a3q n3q c3q] 83)).cell (p := ⟨w.heap.size + 1, 5, none⟩) (World.block_lt_of_cell? _ _ k5p)).trans k5p
            have hX := box2a wr #[.int .i64 takeq, .string anmq, .int .i64 anumq, .slice a0q n0q c0q, .int .i64 opq, .string nmq, .int .i64 numq, .slice a1q n1q c1q, .slice a2q n2q c2q, .slice a3q n3q c3q] #[.int .i64 takeq, .string anmq, .int .i64 anumq, .slice a0r n0r c0r, .int .i64 opq, .string nmq, .int .i64 numq, .slice a1r n1r c1r, .slice a2r n2r c2r, .slice a3r n3r c3r] 83 83
            have hY := box2b wr #[.int .i64 takeq, .string anmq, .int .i64 anumq, .slice a0q n0q c0q, .int .i64 opq, .string nmq, .int .i64 numq, .slice a1q n1q c1q, .slice a2q n2q c2q, .slice a3q n3q c3q] #[.int .i64 takeq, .string anmq, .int .i64 anumq, .slice a0r n0r c0r, .int .i64 opq, .string nmq, .int .i64 numq, .slice a1r n1r c1r, .slice a2r n2r c2r, .slice a3r n3r c3r] 83 83
            have X0 := hX 0 (.int .i64 takeq) rfl
            have X1 := hX 1 (.string anmq) rfl
            have X2 := hX 2 (.int .i64 anumq) rfl
            have X3 := hX 3 (.slice a0q n0q c0q) rfl
            have X4 := hX 4 (.int .i64 opq) rfl
            have X5 := hX 5 (.string nmq) rfl
            have X6 := hX 6 (.int .i64 numq) rfl
            have X7 := hX 7 (.slice a1q n1q c1q) rfl
            have X8 := hX 8 (.slice a2q n2q c2q) rfl
            have X9 := hX 9 (.slice a3q n3q c3q) rfl
            have Y0 := hY 0 (.int .i64 takeq) rfl
            have Y1 := hY 1 (.string anmq) rfl
            have Y2 := hY 2 (.int .i64 anumq) rfl
            have Y3 := hY 3 (.slice a0r n0r c0r) rfl
            have Y4 := hY 4 (.int .i64 opq) rfl
            have Y5 := hY 5 (.string nmq) rfl
            have Y6 := hY 6 (.int .i64 numq) rfl
            have Y7 := hY 7 (.slice a1r n1r c1r) rfl
            have Y8 := hY 8 (.slice a2r n2r c2r) rfl
            have Y9 := hY 9 (.slice a3r n3r c3r) rfl
            clear hX hY
            have HKA : Hid (Below (w.heap.size + 2) _ ((wr.alloc (.cells #[.int .i64 takeq, .string anmq, .int .i64 anumq, .slice a0q n0q c0q, .int .i64 opq, .string nmq, .int .i64 numq, .slice a1q n1q c1q, .slice a2q n2q c2q, .slice a3q n3q c3q] 83)).alloc (.cells #[.int .i64 takeq, .string anmq, .int .i64 anumq, .slice a0r n0r c0r, .int .i64 opq, .string nmq, .int .i64 numq, .slice a1r n1r c1r, .slice a2r n2r c2r, .slice a3r n3r c3r] 83))) := Lib.hid ((HK.out.alloc (by have := HK.out.size; simp at this; omega) _).alloc (by have := HK.out.size; simp at this; simp; omega) _)
            have HBA : Hid (Below w.heap.size w ((wr.alloc (.cells #[.int .i64 takeq, .string anmq, .int .i64 anumq, .slice a0q n0q c0q, .int .i64 opq, .string nmq, .int .i64 numq, .slice a1q n1q c1q, .slice a2q n2q c2q, .slice a3q n3q c3q] 83)).alloc (.cells #[.int .i64 takeq, .string anmq, .int .i64 anumq, .slice a0r n0r c0r, .int .i64 opq, .string nmq, .int .i64 numq, .slice a1r n1r c1r, .slice a2r n2r c2r, .slice a3r n3r c3r] 83))) := Lib.hid (HB0.out.trans (HKA.out.mono (by omega)))
            have HC := Lib.hid (refTexts_any anamesq _ _ ((wr.alloc (.cells #[.int .i64 takeq, .string anmq, .int .i64 anumq, .slice a0q n0q c0q, .int .i64 opq, .string nmq, .int .i64 numq, .slice a1q n1q c1q, .slice a2q n2q c2q, .slice a3q n3q c3q] 83)).alloc (.cells #[.int .i64 takeq, .string anmq, .int .i64 anumq, .slice a0r n0r c0r, .int .i64 opq, .string nmq, .int .i64 numq, .slice a1r n1r c1r, .slice a2r n2r c2r, .slice a3r n3r c3r] 83)) (hq1.mono HBA.out.size fun _ _ p q => TxIn.below HBA.out p q) (hq1p.mono HBA.out.size fun _ _ p q => TxIn.below HBA.out p q))
            have HE2 : Hid (∀ w', Below w.heap.size w w' → Calls Tryz.prog 24 #[.agg #[.int .i64 opq, .string nmq, .int .i64 numq, .slice a1q n1q c1q, .slice a2q n2q c2q, .slice a3q n3q c3q], .agg #[.int .i64 opq, .string nmq, .int .i64 numq, .slice a1r n1r c1r, .slice a2r n2r c2r, .slice a3r n3r c3r]] w' (Grew (.bool true) w')) := Lib.hid fun w' hb => HI.out aeq (by have := HCO.out; simp only [Ex.cost] at this; omega) _ _ w' (hq2.below hb) (hq2p.below hb)
            have hii : (i : Int) < (n3 : Int) := by omega
            have hi0 : (0 : Int) ≤ (i : Int) := by omega
            have hs1 : (anmq.toList != anmq.toList) = false := by simp
            have HRR := Lib.hid hr
            have HRRp := Lib.hid hrp
            clear hbel hbel' e0 e1 e2 e3 e4 e5 e6 e7 e8 e9 e0p e1p e2p e3p e4p e5p e6p e7p e8p e9p ht ht' hv hvp hr hrp hq1 hq1p hq2 hq2p
            go_wp2_with fail
            refine HC.out.mono ?_
            rintro e w2 ⟨rfl, hb2⟩
            have X4 := (hb2.cell (p := ⟨wr.heap.size, 4, none⟩) (by simp <;> omega)).trans X4
            have Y4 := (hb2.cell (p := ⟨wr.heap.size + 1, 4, none⟩) (by simp)).trans Y4
            have X5 := (hb2.cell (p := ⟨wr.heap.size, 5, none⟩) (by simp <;> omega)).trans X5
            have Y5 := (hb2.cell (p := ⟨wr.heap.size + 1, 5, none⟩) (by simp)).trans Y5
            have X6 := (hb2.cell (p := ⟨wr.heap.size, 6, none⟩) (by simp <;> omega)).trans X6
            have Y6 := (hb2.cell (p := ⟨wr.heap.size + 1, 6, none⟩) (by simp)).trans Y6
            have X7 := (hb2.cell (p := ⟨wr.heap.size, 7, none⟩) (by simp <;> omega)).trans X7
            have Y7 := (hb2.cell (p := ⟨wr.heap.size + 1, 7, none⟩) (by simp)).trans Y7
            have X8 := (hb2.cell (p := ⟨wr.heap.size, 8, none⟩) (by simp <;> omega)).trans X8
            have Y8 := (hb2.cell (p := ⟨wr.heap.size + 1, 8, none⟩) (by simp)).trans Y8
            have X9 := (hb2.cell (p := ⟨wr.heap.size, 9, none⟩) (by simp <;> omega)).trans X9
            have Y9 := (hb2.cell (p := ⟨wr.heap.size + 1, 9, none⟩) (by simp)).trans Y9
            have HK2 : Hid (Below (w.heap.size + 2) _ w2) := Lib.hid (HKA.out.trans (hb2.mono (by have := HK.out.size; simp at this; simp; omega)))
            have HC2 := Lib.hid (HE2.out w2 (HB0.out.trans (HK2.out.mono (by omega))))
            clear hb2 HC
            go_wp2_with fail
            refine HC2.out.mono ?_
            rintro e w3 ⟨rfl, hb3⟩
            have HK3 : Hid (Below (w.heap.size + 2) _ w3) := Lib.hid (HK2.out.trans (hb3.mono (by have := HK2.out.size; simpa using this)))
            clear hb3 HC2
            go_wp2_with fail
            go_roundw
            case rel => exact ⟨i + 1, r, by go_num, by omega, HK3, Lib.hid (by have := HCO.out; simp only [Ex.cost] at this; omega), Lib.hid (al_wf HWF.out).2.2, Lib.hid fun _ => ⟨b, o, rfl, hbw, HRR.out⟩, Lib.hid fun _ => ⟨b', o', rfl, hbw', HRRp.out⟩⟩
            case measure => simp [intOf]; omega
      | alt => exact absurd HWF.out.1 (by simp)
      | expr opq nmq numq namesq Lq altsq r =>
        simp only [Ex.len] at hir
        obtain ⟨b, o, rfl, hbw, ht⟩ := HIN.out (by simp only [Ex.len]; omega)
        obtain ⟨b', o', rfl, hbw', ht'⟩ := HINp.out (by simp only [Ex.len]; omega)
        obtain ⟨n1q, a1q, c1q, n2q, a2q, c2q, n3q, a3q, c3q, e0, e1, e2, e3, e4, e5, hv, hr⟩ := ex_first HWF.out ht
        obtain ⟨n1r, a1r, c1r, n2r, a2r, c2r, n3r, a3r, c3r, e0p, e1p, e2p, e3p, e4p, e5p, hvp, hrp⟩ := ex_first HWF.out ht'
        have hbel : ∀ k, wr.cell? ⟨b, k, none⟩ = w.cell? ⟨b, k, none⟩ := fun k => HB.out.cell (p := ⟨b, k, none⟩) hbw
        have hbel' : ∀ k, wr.cell? ⟨b', k, none⟩ = w.cell? ⟨b', k, none⟩ := fun k => HB.out.cell (p := ⟨b', k, none⟩) hbw'
        have e0' := (hbel _).trans e0
        have e0p' := (hbel' _).trans e0p
        have e1' := (hbel _).trans e1
        have e1p' := (hbel' _).trans e1p
        have e2' := (hbel _).trans e2
        have e2p' := (hbel' _).trans e2p
        have e3' := (hbel _).trans e3
        have e3p' := (hbel' _).trans e3p
        have e4' := (hbel _).trans e4
        have e4p' := (hbel' _).trans e4p
        have e5' := (hbel _).trans e5
        have e5p' := (hbel' _).trans e5p
        have hii : (i : Int) < (n2 : Int) := by omega
        have hi0 : (0 : Int) ≤ (i : Int) := by omega
        have hszA : b < wr.heap.size := Nat.lt_of_lt_of_le hbw HB.out.size
        have hszB : b' < wr.heap.size := Nat.lt_of_lt_of_le hbw' HB.out.size
        have hszC : w.heap.size < wr.heap.size := World.block_lt_of_cell? _ _ k4
        have hszD : w.heap.size + 1 < wr.heap.size := World.block_lt_of_cell? _ _ k4p
        have HC : Hid (∀ w', Below w.heap.size w w' → Calls Tryz.prog 24 #[.agg #[.int .i64 opq, .string nmq, .int .i64 numq, .slice a1q n1q c1q, .slice a2q n2q c2q, .slice a3q n3q c3q], .agg #[.int .i64 opq, .string nmq, .int .i64 numq, .slice a1r n1r c1r, .slice a2r n2r c2r, .slice a3r n3r c3r]] w' (Grew (.bool true) w')) := Lib.hid fun w' hb => HI.out (.expr opq nmq numq namesq Lq altsq .nil) (by have := HCO.out; simp only [Ex.cost] at this ⊢; omega) _ _ w' (hv.below hb) (hvp.below hb)
        have HRR := Lib.hid hr
        have HRRp := Lib.hid hrp
        clear hbel hbel' e0 e1 e2 e3 e4 e5 e0p e1p e2p e3p e4p e5p ht ht' hv hvp hr hrp
        go_wp2_with fail
        go_region_held3 (fun w' => w'.cell? ⟨w.heap.size, 4, none⟩ = some (.slice (some ⟨b, o, none⟩) n2 c2) ∧ w'.cell? ⟨w.heap.size + 1, 4, none⟩ = some (.slice (some ⟨b', o', none⟩) n2 c2p) ∧ w'.cell? ⟨b, o + i * 6, none⟩ = some (.int .i64 opq) ∧ w'.cell? ⟨b, o + i * 6 + 1, none⟩ = some (.string nmq) ∧ w'.cell? ⟨b, o + i * 6 + 2, none⟩ = some (.int .i64 numq) ∧ w'.cell? ⟨b, o + i * 6 + 3, none⟩ = some (.slice a1q n1q c1q) ∧ w'.cell? ⟨b, o + i * 6 + 4, none⟩ = some (.slice a2q n2q c2q) ∧ w'.cell? ⟨b, o + i * 6 + 5, none⟩ = some (.slice a3q n3q c3q) ∧ w'.cell? ⟨b', o' + i * 6, none⟩ = some (.int .i64 opq) ∧ w'.cell? ⟨b', o' + i * 6 + 1, none⟩ = some (.string nmq) ∧ w'.cell? ⟨b', o' + i * 6 + 2, none⟩ = some (.int .i64 numq) ∧ w'.cell? ⟨b', o' + i * 6 + 3, none⟩ = some (.slice a1r n1r c1r) ∧ w'.cell? ⟨b', o' + i * 6 + 4, none⟩ = some (.slice a2r n2r c2r) ∧ w'.cell? ⟨b', o' + i * 6 + 5, none⟩ = some (.slice a3r n3r c3r)) (first | go_keep | (refine ⟨?_, ?_, ?_, ?_, ?_, ?_, ?_, ?_, ?_, ?_, ?_, ?_, ?_, ?_⟩ <;> (first | (rw [HB2.out.cell (p := ⟨w.heap.size, _, none⟩) hszC]; assumption) | (rw [HB2.out.cell (p := ⟨w.heap.size + 1, _, none⟩) hszD]; assumption) | (rw [HB2.out.cell (p := ⟨b, _, none⟩) hszA]; assumption) | (rw [HB2.out.cell (p := ⟨b', _, none⟩) hszB]; assumption)))) (first | (go_at_call 24; refine (HC.out _ (Below.drew HB.out)).mono ?_; rintro e w2 ⟨rfl, hb2⟩; have HB2 : Hid (Below wr.heap.size wr w2) := Lib.hid ((Below.drew (Below.refl _ wr)).trans hb2); clear hb2))
        all_goals (
          go_wp2_with fail
          go_roundw
          case rel => exact ⟨i + 1, r, by go_num, by omega, Lib.hid (HK.out.trans (HB2.out.mono (by have := HK.out.size; simpa using this))), Lib.hid (by have := HCO.out; simp only [Ex.cost] at this; omega), Lib.hid (ex_wf HWF.out).2.2, Lib.hid fun _ => ⟨b, o, rfl, hbw, HRR.out⟩, Lib.hid fun _ => ⟨b', o', rfl, hbw', HRRp.out⟩⟩
          case measure => simp [intOf]; omega)
end Go.Proofs.YtledjcplbldokaaGreatDoor
