/- syn.sameAlt: whether two alternatives are the same. Conditions: so is what it holds expressions against one another with. -/
import Derived.Test.YtledjcplbldokaaGreatDoorEq5
import Derived.Test.YtledjcplbldokaaGreatDoorEq4
import Derived.Deep.RegionHeld3
import Derived.Deep.DrawnRows
namespace Go.Proofs.YtledjcplbldokaaGreatDoor
open Go.ChangeShapes Go.WideShapes Go.ChangeAt Go.RowKit
attribute [local go_sem ↓] Go.wp_at_zero Go.wp_at_succ

set_option maxRecDepth 100000 in
set_option maxHeartbeats 8000000 in
theorem sameAlt_any (m : Nat) (HE : ∀ e e' : Ex, e.cost ≤ m → ∀ (v v' : Value) (w : World), ExV w e v → ExV w e' v' → Calls Tryz.prog 41 #[v, v'] w (Grew (.bool (e.eq e')) w)) :
    ∀ e e' : Ex, e.cost ≤ m → ∀ (v v' : Value) (w : World), AlV w e v → AlV w e' v' → Calls Tryz.prog 71 #[v, v'] w (Grew (.bool (e.eq e')) w) := by
  intro e e' hcost v v' w hv hv'
  have HI := Lib.hid HE
  obtain ⟨take, anm, anum, anames, ae, n0, a0, c0, op, nm, num, n1, a1, c1, n2, a2, c2, n3, a3, c3, rfl, rfl, -, -, hnm, hs, he⟩ := hv
  obtain ⟨takep, anmp, anump, anamesp, aep, n0p, a0p, c0p, opp, nmp, nump, n1p, a1p, c1p, n2p, a2p, c2p, n3p, a3p, c3p, rfl, rfl, -, -, hnmp, hsp, hep⟩ := hv'
  obtain ⟨X, hX⟩ : ∃ X, X = (Ex.alt take anm anum anames ae .nil).eq (.alt takep anmp anump anamesp aep .nil) := ⟨_, rfl⟩
  have HX : Hid (X = (take == takep && (anm.toList == anmp.toList && (anum == anump && (txEq anames anamesp && ae.eq aep))))) := Lib.hid (by rw [hX]; simp [Ex.eq])
  rw [← hX]
  have Hanames := Lib.hid hs
  have Hanamesp := Lib.hid hsp
  have HV := Lib.hid he
  have HVp := Lib.hid hep
  have HCO := Lib.hid hcost
  clear HE hs hsp he hep hX hcost
  have HB0 : Hid (Below w.heap.size w ((w.alloc (.cells #[.int .i64 take, .string anm, .int .i64 anum, .slice a0 n0 c0, .int .i64 op, .string nm, .int .i64 num, .slice a1 n1 c1, .slice a2 n2 c2, .slice a3 n3 c3] 83)).alloc (.cells #[.int .i64 takep, .string anmp, .int .i64 anump, .slice a0p n0p c0p, .int .i64 opp, .string nmp, .int .i64 nump, .slice a1p n1p c1p, .slice a2p n2p c2p, .slice a3p n3p c3p] 83))) := Lib.hid (((Below.refl _ w).alloc (Nat.le_refl _) _).alloc (by simp) _)
  have hA := box2a w #[.int .i64 take, .string anm, .int .i64 anum, .slice a0 n0 c0, .int .i64 op, .string nm, .int .i64 num, .slice a1 n1 c1, .slice a2 n2 c2, .slice a3 n3 c3] #[.int .i64 takep, .string anmp, .int .i64 anump, .slice a0p n0p c0p, .int .i64 opp, .string nmp, .int .i64 nump, .slice a1p n1p c1p, .slice a2p n2p c2p, .slice a3p n3p c3p] 83 83
  have hB := box2b w #[.int .i64 take, .string anm, .int .i64 anum, .slice a0 n0 c0, .int .i64 op, .string nm, .int .i64 num, .slice a1 n1 c1, .slice a2 n2 c2, .slice a3 n3 c3] #[.int .i64 takep, .string anmp, .int .i64 anump, .slice a0p n0p c0p, .int .i64 opp, .string nmp, .int .i64 nump, .slice a1p n1p c1p, .slice a2p n2p c2p, .slice a3p n3p c3p] 83 83
  have A0 := hA 0 (.int .i64 take) rfl
  have A1 := hA 1 (.string anm) rfl
  have A2 := hA 2 (.int .i64 anum) rfl
  have A3 := hA 3 (.slice a0 n0 c0) rfl
  have A4 := hA 4 (.int .i64 op) rfl
  have A5 := hA 5 (.string nm) rfl
  have A6 := hA 6 (.int .i64 num) rfl
  have A7 := hA 7 (.slice a1 n1 c1) rfl
  have A8 := hA 8 (.slice a2 n2 c2) rfl
  have A9 := hA 9 (.slice a3 n3 c3) rfl
  have B0 := hB 0 (.int .i64 takep) rfl
  have B1 := hB 1 (.string anmp) rfl
  have B2 := hB 2 (.int .i64 anump) rfl
  have B3 := hB 3 (.slice a0p n0p c0p) rfl
  have B4 := hB 4 (.int .i64 opp) rfl
  have B5 := hB 5 (.string nmp) rfl
  have B6 := hB 6 (.int .i64 nump) rfl
  have B7 := hB 7 (.slice a1p n1p c1p) rfl
  have B8 := hB 8 (.slice a2p n2p c2p) rfl
  have B9 := hB 9 (.slice a3p n3p c3p) rfl
  clear hA hB
  cases hq0 : (take == takep)
  · have HT : Hid (X = false) := Lib.hid (by rw [HX.out, hq0]; rfl)
    go_enter Tryz.func71, Tryz.ntmps71
    go_wp2_with fail
    go_ret
    exact ⟨by rw [HT.out]; rfl, HB0.out⟩
  · cases hq1 : (anm.toList == anmp.toList)
    · have HT : Hid (X = false) := Lib.hid (by rw [HX.out, hq0, hq1]; rfl)
      go_enter Tryz.func71, Tryz.ntmps71
      go_wp2_with fail
      go_ret
      exact ⟨by rw [HT.out]; rfl, HB0.out⟩
    · cases hq2 : (anum == anump)
      · have HT : Hid (X = false) := Lib.hid (by rw [HX.out, hq0, hq1, hq2]; rfl)
        go_enter Tryz.func71, Tryz.ntmps71
        go_wp2_with fail
        go_ret
        exact ⟨by rw [HT.out]; rfl, HB0.out⟩
      · have HC3 := txEqual_any anames anamesp _ _ ((w.alloc (.cells #[.int .i64 take, .string anm, .int .i64 anum, .slice a0 n0 c0, .int .i64 op, .string nm, .int .i64 num, .slice a1 n1 c1, .slice a2 n2 c2, .slice a3 n3 c3] 83)).alloc (.cells #[.int .i64 takep, .string anmp, .int .i64 anump, .slice a0p n0p c0p, .int .i64 opp, .string nmp, .int .i64 nump, .slice a1p n1p c1p, .slice a2p n2p c2p, .slice a3p n3p c3p] 83)) (Hanames.out.mono HB0.out.size fun _ _ p q => TxIn.below HB0.out p q) (Hanamesp.out.mono HB0.out.size fun _ _ p q => TxIn.below HB0.out p q)
        obtain ⟨x3, hx3⟩ : ∃ zz, zz = (txEq anames anamesp) := ⟨_, rfl⟩
        rw [← hx3] at HC3
        have HC3 := Lib.hid HC3
        have HX3 := Lib.hid hx3
        clear hx3
        go_enter Tryz.func71, Tryz.ntmps71
        go_wp2_with fail
        refine HC3.out.mono ?_
        rintro e u3 ⟨rfl, hb3⟩
        have A0 := (hb3.cell (p := ⟨w.heap.size, 0, none⟩) (by have := HB0.out.size; first | (simp; done) | (have := World.block_lt_of_cell? _ _ A0; exact this))).trans A0
        have A1 := (hb3.cell (p := ⟨w.heap.size, 1, none⟩) (by have := HB0.out.size; first | (simp; done) | (have := World.block_lt_of_cell? _ _ A1; exact this))).trans A1
        have A2 := (hb3.cell (p := ⟨w.heap.size, 2, none⟩) (by have := HB0.out.size; first | (simp; done) | (have := World.block_lt_of_cell? _ _ A2; exact this))).trans A2
        have A3 := (hb3.cell (p := ⟨w.heap.size, 3, none⟩) (by have := HB0.out.size; first | (simp; done) | (have := World.block_lt_of_cell? _ _ A3; exact this))).trans A3
        have A4 := (hb3.cell (p := ⟨w.heap.size, 4, none⟩) (by have := HB0.out.size; first | (simp; done) | (have := World.block_lt_of_cell? _ _ A4; exact this))).trans A4
        have A5 := (hb3.cell (p := ⟨w.heap.size, 5, none⟩) (by have := HB0.out.size; first | (simp; done) | (have := World.block_lt_of_cell? _ _ A5; exact this))).trans A5
        have A6 := (hb3.cell (p := ⟨w.heap.size, 6, none⟩) (by have := HB0.out.size; first | (simp; done) | (have := World.block_lt_of_cell? _ _ A6; exact this))).trans A6
        have A7 := (hb3.cell (p := ⟨w.heap.size, 7, none⟩) (by have := HB0.out.size; first | (simp; done) | (have := World.block_lt_of_cell? _ _ A7; exact this))).trans A7
        have A8 := (hb3.cell (p := ⟨w.heap.size, 8, none⟩) (by have := HB0.out.size; first | (simp; done) | (have := World.block_lt_of_cell? _ _ A8; exact this))).trans A8
        have A9 := (hb3.cell (p := ⟨w.heap.size, 9, none⟩) (by have := HB0.out.size; first | (simp; done) | (have := World.block_lt_of_cell? _ _ A9; exact this))).trans A9
        have B0 := (hb3.cell (p := ⟨w.heap.size + 1, 0, none⟩) (by have := HB0.out.size; first | (simp; done) | (have := World.block_lt_of_cell? _ _ B0; exact this))).trans B0
        have B1 := (hb3.cell (p := ⟨w.heap.size + 1, 1, none⟩) (by have := HB0.out.size; first | (simp; done) | (have := World.block_lt_of_cell? _ _ B1; exact this))).trans B1
        have B2 := (hb3.cell (p := ⟨w.heap.size + 1, 2, none⟩) (by have := HB0.out.size; first | (simp; done) | (have := World.block_lt_of_cell? _ _ B2; exact this))).trans B2
        have B3 := (hb3.cell (p := ⟨w.heap.size + 1, 3, none⟩) (by have := HB0.out.size; first | (simp; done) | (have := World.block_lt_of_cell? _ _ B3; exact this))).trans B3
        have B4 := (hb3.cell (p := ⟨w.heap.size + 1, 4, none⟩) (by have := HB0.out.size; first | (simp; done) | (have := World.block_lt_of_cell? _ _ B4; exact this))).trans B4
        have B5 := (hb3.cell (p := ⟨w.heap.size + 1, 5, none⟩) (by have := HB0.out.size; first | (simp; done) | (have := World.block_lt_of_cell? _ _ B5; exact this))).trans B5
        have B6 := (hb3.cell (p := ⟨w.heap.size + 1, 6, none⟩) (by have := HB0.out.size; first | (simp; done) | (have := World.block_lt_of_cell? _ _ B6; exact this))).trans B6
        have B7 := (hb3.cell (p := ⟨w.heap.size + 1, 7, none⟩) (by have := HB0.out.size; first | (simp; done) | (have := World.block_lt_of_cell? _ _ B7; exact this))).trans B7
        have B8 := (hb3.cell (p := ⟨w.heap.size + 1, 8, none⟩) (by have := HB0.out.size; first | (simp; done) | (have := World.block_lt_of_cell? _ _ B8; exact this))).trans B8
        have B9 := (hb3.cell (p := ⟨w.heap.size + 1, 9, none⟩) (by have := HB0.out.size; first | (simp; done) | (have := World.block_lt_of_cell? _ _ B9; exact this))).trans B9
        have HB4 : Hid (Below w.heap.size w u3) := Lib.hid (HB0.out.trans (hb3.mono HB0.out.size))
        clear hb3 HC3
        cases x3
        · have hq3 : (txEq anames anamesp) = false := HX3.out.symm
          have HT : Hid (X = false) := Lib.hid (by rw [HX.out, hq0, hq1, hq2, hq3]; rfl)
          clear hq3
          go_wp2_with fail
          go_ret
          exact ⟨by rw [HT.out]; rfl, HB4.out⟩
        · have HQ3 : Hid ((txEq anames anamesp) = true) := Lib.hid HX3.out.symm
          have HC4 := HI.out ae aep (by have := HCO.out; simp only [Ex.cost] at this; omega) _ _ u3 (HV.out.below HB4.out) (HVp.out.below HB4.out)
          obtain ⟨x4, hx4⟩ : ∃ zz, zz = (ae.eq aep) := ⟨_, rfl⟩
          rw [← hx4] at HC4
          have HC4 := Lib.hid HC4
          have HX4 := Lib.hid hx4
          clear hx4
          go_wp2_with fail
          refine HC4.out.mono ?_
          rintro e u4 ⟨rfl, hb4⟩
          have A0 := (hb4.cell (p := ⟨w.heap.size, 0, none⟩) (by have := HB4.out.size; first | (simp; done) | (have := World.block_lt_of_cell? _ _ A0; exact this))).trans A0
          have A1 := (hb4.cell (p := ⟨w.heap.size, 1, none⟩) (by have := HB4.out.size; first | (simp; done) | (have := World.block_lt_of_cell? _ _ A1; exact this))).trans A1
          have A2 := (hb4.cell (p := ⟨w.heap.size, 2, none⟩) (by have := HB4.out.size; first | (simp; done) | (have := World.block_lt_of_cell? _ _ A2; exact this))).trans A2
          have A3 := (hb4.cell (p := ⟨w.heap.size, 3, none⟩) (by have := HB4.out.size; first | (simp; done) | (have := World.block_lt_of_cell? _ _ A3; exact this))).trans A3
          have A4 := (hb4.cell (p := ⟨w.heap.size, 4, none⟩) (by have := HB4.out.size; first | (simp; done) | (have := World.block_lt_of_cell? _ _ A4; exact this))).trans A4
          have A5 := (hb4.cell (p := ⟨w.heap.size, 5, none⟩) (by have := HB4.out.size; first | (simp; done) | (have := World.block_lt_of_cell? _ _ A5; exact this))).trans A5
          have A6 := (hb4.cell (p := ⟨w.heap.size, 6, none⟩) (by have := HB4.out.size; first | (simp; done) | (have := World.block_lt_of_cell? _ _ A6; exact this))).trans A6
          have A7 := (hb4.cell (p := ⟨w.heap.size, 7, none⟩) (by have := HB4.out.size; first | (simp; done) | (have := World.block_lt_of_cell? _ _ A7; exact this))).trans A7
          have A8 := (hb4.cell (p := ⟨w.heap.size, 8, none⟩) (by have := HB4.out.size; first | (simp; done) | (have := World.block_lt_of_cell? _ _ A8; exact this))).trans A8
          have A9 := (hb4.cell (p := ⟨w.heap.size, 9, none⟩) (by have := HB4.out.size; first | (simp; done) | (have := World.block_lt_of_cell? _ _ A9; exact this))).trans A9
          have B0 := (hb4.cell (p := ⟨w.heap.size + 1, 0, none⟩) (by have := HB4.out.size; first | (simp; done) | (have := World.block_lt_of_cell? _ _ B0; exact this))).trans B0
          have B1 := (hb4.cell (p := ⟨w.heap.size + 1, 1, none⟩) (by have := HB4.out.size; first | (simp; done) | (have := World.block_lt_of_cell? _ _ B1; exact this))).trans B1
          have B2 := (hb4.cell (p := ⟨w.heap.size + 1, 2, none⟩) (by have := HB4.out.size; first | (simp; done) | (have := World.block_lt_of_cell? _ _ B2; exact this))).trans B2
          have B3 := (hb4.cell (p := ⟨w.heap.size + 1, 3, none⟩) (by have := HB4.out.size; first | (simp; done) | (have := World.block_lt_of_cell? _ _ B3; exact this))).trans B3
          have B4 := (hb4.cell (p := ⟨w.heap.size + 1, 4, none⟩) (by have := HB4.out.size; first | (simp; done) | (have := World.block_lt_of_cell? _ _ B4; exact this))).trans B4
          have B5 := (hb4.cell (p := ⟨w.heap.size + 1, 5, none⟩) (by have := HB4.out.size; first | (simp; done) | (have := World.block_lt_of_cell? _ _ B5; exact this))).trans B5
          have B6 := (hb4.cell (p := ⟨w.heap.size + 1, 6, none⟩) (by have := HB4.out.size; first | (simp; done) | (have := World.block_lt_of_cell? _ _ B6; exact this))).trans B6
          have B7 := (hb4.cell (p := ⟨w.heap.size + 1, 7, none⟩) (by have := HB4.out.size; first | (simp; done) | (have := World.block_lt_of_cell? _ _ B7; exact this))).trans B7
          have B8 := (hb4.cell (p := ⟨w.heap.size + 1, 8, none⟩) (by have := HB4.out.size; first | (simp; done) | (have := World.block_lt_of_cell? _ _ B8; exact this))).trans B8
          have B9 := (hb4.cell (p := ⟨w.heap.size + 1, 9, none⟩) (by have := HB4.out.size; first | (simp; done) | (have := World.block_lt_of_cell? _ _ B9; exact this))).trans B9
          have HB5 : Hid (Below w.heap.size w u4) := Lib.hid (HB4.out.trans (hb4.mono HB4.out.size))
          clear hb4 HC4
          cases x4
          · have hq4 : (ae.eq aep) = false := HX4.out.symm
            have HT : Hid (X = false) := Lib.hid (by rw [HX.out, hq0, hq1, hq2, HQ3.out, hq4]; rfl)
            clear hq4
            go_wp2_with fail
            go_ret
            exact ⟨by rw [HT.out]; rfl, HB5.out⟩
          · have HQ4 : Hid ((ae.eq aep) = true) := Lib.hid HX4.out.symm
            have HT : Hid (X = true) := Lib.hid (by rw [HX.out, hq0, hq1, hq2, HQ3.out, HQ4.out]; rfl)
            go_wp2_with fail
            go_ret
            exact ⟨by rw [HT.out]; rfl, HB5.out⟩
set_option maxRecDepth 100000 in
set_option maxHeartbeats 8000000 in
theorem sameExpr_any (m : Nat) : ∀ e e' : Ex, e.cost ≤ m → ∀ (v v' : Value) (w : World), ExV w e v → ExV w e' v' → Calls Tryz.prog 41 #[v, v'] w (Grew (.bool (e.eq e')) w) := by
  induction m with
  | zero =>
    intro e e' h v v' w hv
    obtain ⟨op, nm, num, names, L, alts, n1, a1, c1, n2, a2, c2, n3, a3, c3, rfl, -⟩ := hv
    simp only [Ex.cost] at h; omega
  | succ m IH =>
    intro e e' hcost v v' w hv hv'
    have HI := Lib.hid IH
    obtain ⟨op, nm, num, names, L, alts, n1, a1, c1, n2, a2, c2, n3, a3, c3, rfl, rfl, -, -, hnm, hw2, hw3, hs1, hs2, hs3⟩ := hv
    obtain ⟨opp, nmp, nump, namesp, Lp, altsp, n1p, a1p, c1p, n2p, a2p, c2p, n3p, a3p, c3p, rfl, rfl, -, -, hnmp, hw2p, hw3p, hs1p, hs2p, hs3p⟩ := hv'
    obtain ⟨X, hX⟩ : ∃ X, X = (Ex.expr op nm num names L alts .nil).eq (.expr opp nmp nump namesp Lp altsp .nil) := ⟨_, rfl⟩
    have HX : Hid (X = (op == opp && (nm.toList == nmp.toList && (num == nump && (txEq names namesp && (L.eq Lp && alts.eq altsp)))))) := Lib.hid (by rw [hX]; simp [Ex.eq])
    rw [← hX]
    have Hnames := Lib.hid hs1
    have Hnamesp := Lib.hid hs1p
    have HL := Lib.hid hs2
    have HLp := Lib.hid hs2p
    have HA := Lib.hid hs3
    have HAp := Lib.hid hs3p
    have HW := Lib.hid (And.intro hw2 (And.intro hw3 (And.intro hw2p hw3p)))
    have HCO := Lib.hid hcost
    clear IH hs1 hs1p hs2 hs2p hs3 hs3p hw2 hw3 hw2p hw3p hX hcost
    have HB0 : Hid (Below w.heap.size w ((w.alloc (.cells #[.int .i64 op, .string nm, .int .i64 num, .slice a1 n1 c1, .slice a2 n2 c2, .slice a3 n3 c3] 35)).alloc (.cells #[.int .i64 opp, .string nmp, .int .i64 nump, .slice a1p n1p c1p, .slice a2p n2p c2p, .slice a3p n3p c3p] 35))) := Lib.hid (((Below.refl _ w).alloc (Nat.le_refl _) _).alloc (by simp) _)
    have hA := box2a w #[.int .i64 op, .string nm, .int .i64 num, .slice a1 n1 c1, .slice a2 n2 c2, .slice a3 n3 c3] #[.int .i64 opp, .string nmp, .int .i64 nump, .slice a1p n1p c1p, .slice a2p n2p c2p, .slice a3p n3p c3p] 35 35
    have hB := box2b w #[.int .i64 op, .string nm, .int .i64 num, .slice a1 n1 c1, .slice a2 n2 c2, .slice a3 n3 c3] #[.int .i64 opp, .string nmp, .int .i64 nump, .slice a1p n1p c1p, .slice a2p n2p c2p, .slice a3p n3p c3p] 35 35
    have A0 := hA 0 (.int .i64 op) rfl
    have A1 := hA 1 (.string nm) rfl
    have A2 := hA 2 (.int .i64 num) rfl
    have A3 := hA 3 (.slice a1 n1 c1) rfl
    have A4 := hA 4 (.slice a2 n2 c2) rfl
    have A5 := hA 5 (.slice a3 n3 c3) rfl
    have B0 := hB 0 (.int .i64 opp) rfl
    have B1 := hB 1 (.string nmp) rfl
    have B2 := hB 2 (.int .i64 nump) rfl
    have B3 := hB 3 (.slice a1p n1p c1p) rfl
    have B4 := hB 4 (.slice a2p n2p c2p) rfl
    have B5 := hB 5 (.slice a3p n3p c3p) rfl
    clear hA hB
    cases hq0 : (op == opp)
    · have HT : Hid (X = false) := Lib.hid (by rw [HX.out, hq0]; rfl)
      go_enter Tryz.func41, Tryz.ntmps41
      go_wp2_with fail
      go_ret
      exact ⟨by rw [HT.out]; rfl, HB0.out⟩
    · cases hq1 : (nm.toList == nmp.toList)
      · have HT : Hid (X = false) := Lib.hid (by rw [HX.out, hq0, hq1]; rfl)
        go_enter Tryz.func41, Tryz.ntmps41
        go_wp2_with fail
        go_ret
        exact ⟨by rw [HT.out]; rfl, HB0.out⟩
      · cases hq2 : (num == nump)
        · have HT : Hid (X = false) := Lib.hid (by rw [HX.out, hq0, hq1, hq2]; rfl)
          go_enter Tryz.func41, Tryz.ntmps41
          go_wp2_with fail
          go_ret
          exact ⟨by rw [HT.out]; rfl, HB0.out⟩
        · have HC3 := txEqual_any names namesp _ _ ((w.alloc (.cells #[.int .i64 op, .string nm, .int .i64 num, .slice a1 n1 c1, .slice a2 n2 c2, .slice a3 n3 c3] 35)).alloc (.cells #[.int .i64 opp, .string nmp, .int .i64 nump, .slice a1p n1p c1p, .slice a2p n2p c2p, .slice a3p n3p c3p] 35)) (Hnames.out.mono HB0.out.size fun _ _ p q => TxIn.below HB0.out p q) (Hnamesp.out.mono HB0.out.size fun _ _ p q => TxIn.below HB0.out p q)
          obtain ⟨x3, hx3⟩ : ∃ zz, zz = (txEq names namesp) := ⟨_, rfl⟩
          rw [← hx3] at HC3
          have HC3 := Lib.hid HC3
          have HX3 := Lib.hid hx3
          clear hx3
          go_enter Tryz.func41, Tryz.ntmps41
          go_wp2_with fail
          refine HC3.out.mono ?_
          rintro e u3 ⟨rfl, hb3⟩
          have A0 := (hb3.cell (p := ⟨w.heap.size, 0, none⟩) (by have := HB0.out.size; first | (simp; done) | (have := World.block_lt_of_cell? _ _ A0; exact this))).trans A0
          have A1 := (hb3.cell (p := ⟨w.heap.size, 1, none⟩) (by have := HB0.out.size; first | (simp; done) | (have := World.block_lt_of_cell? _ _ A1; exact this))).trans A1
          have A2 := (hb3.cell (p := ⟨w.heap.size, 2, none⟩) (by have := HB0.out.size; first | (simp; done) | (have := World.block_lt_of_cell? _ _ A2; exact this))).trans A2
          have A3 := (hb3.cell (p := ⟨w.heap.size, 3, none⟩) (by have := HB0.out.size; first | (simp; done) | (have := World.block_lt_of_cell? _ _ A3; exact this))).trans A3
          have A4 := (hb3.cell (p := ⟨w.heap.size, 4, none⟩) (by have := HB0.out.size; first | (simp; done) | (have := World.block_lt_of_cell? _ _ A4; exact this))).trans A4
          have A5 := (hb3.cell (p := ⟨w.heap.size, 5, none⟩) (by have := HB0.out.size; first | (simp; done) | (have := World.block_lt_of_cell? _ _ A5; exact this))).trans A5
          have B0 := (hb3.cell (p := ⟨w.heap.size + 1, 0, none⟩) (by have := HB0.out.size; first | (simp; done) | (have := World.block_lt_of_cell? _ _ B0; exact this))).trans B0
          have B1 := (hb3.cell (p := ⟨w.heap.size + 1, 1, none⟩) (by have := HB0.out.size; first | (simp; done) | (have := World.block_lt_of_cell? _ _ B1; exact this))).trans B1
          have B2 := (hb3.cell (p := ⟨w.heap.size + 1, 2, none⟩) (by have := HB0.out.size; first | (simp; done) | (have := World.block_lt_of_cell? _ _ B2; exact this))).trans B2
          have B3 := (hb3.cell (p := ⟨w.heap.size + 1, 3, none⟩) (by have := HB0.out.size; first | (simp; done) | (have := World.block_lt_of_cell? _ _ B3; exact this))).trans B3
          have B4 := (hb3.cell (p := ⟨w.heap.size + 1, 4, none⟩) (by have := HB0.out.size; first | (simp; done) | (have := World.block_lt_of_cell? _ _ B4; exact this))).trans B4
          have B5 := (hb3.cell (p := ⟨w.heap.size + 1, 5, none⟩) (by have := HB0.out.size; first | (simp; done) | (have := World.block_lt_of_cell? _ _ B5; exact this))).trans B5
          have HB4 : Hid (Below w.heap.size w u3) := Lib.hid (HB0.out.trans (hb3.mono HB0.out.size))
          clear hb3 HC3
          cases x3
          · have hq3 : (txEq names namesp) = false := HX3.out.symm
            have HT : Hid (X = false) := Lib.hid (by rw [HX.out, hq0, hq1, hq2, hq3]; rfl)
            clear hq3
            go_wp2_with fail
            go_ret
            exact ⟨by rw [HT.out]; rfl, HB4.out⟩
          · have HQ3 : Hid ((txEq names namesp) = true) := Lib.hid HX3.out.symm
            have HC4 := eqfEx_any m HI.out L Lp (by have := HCO.out; simp only [Ex.cost] at this; omega) HW.out.1 HW.out.2.2.1 _ _ u3 (HL.out.mono HB4.out.size fun _ _ p q => ExIn.below HB4.out p q) (HLp.out.mono HB4.out.size fun _ _ p q => ExIn.below HB4.out p q)
            obtain ⟨x4, hx4⟩ : ∃ zz, zz = (L.eq Lp) := ⟨_, rfl⟩
            rw [← hx4] at HC4
            have HC4 := Lib.hid HC4
            have HX4 := Lib.hid hx4
            clear hx4
            go_wp2_with fail
            refine HC4.out.mono ?_
            rintro e u4 ⟨rfl, hb4⟩
            have A0 := (hb4.cell (p := ⟨w.heap.size, 0, none⟩) (by have := HB4.out.size; first | (simp; done) | (have := World.block_lt_of_cell? _ _ A0; exact this))).trans A0
            have A1 := (hb4.cell (p := ⟨w.heap.size, 1, none⟩) (by have := HB4.out.size; first | (simp; done) | (have := World.block_lt_of_cell? _ _ A1; exact this))).trans A1
            have A2 := (hb4.cell (p := ⟨w.heap.size, 2, none⟩) (by have := HB4.out.size; first | (simp; done) | (have := World.block_lt_of_cell? _ _ A2; exact this))).trans A2
            have A3 := (hb4.cell (p := ⟨w.heap.size, 3, none⟩) (by have := HB4.out.size; first | (simp; done) | (have := World.block_lt_of_cell? _ _ A3; exact this))).trans A3
            have A4 := (hb4.cell (p := ⟨w.heap.size, 4, none⟩) (by have := HB4.out.size; first | (simp; done) | (have := World.block_lt_of_cell? _ _ A4; exact this))).trans A4
            have A5 := (hb4.cell (p := ⟨w.heap.size, 5, none⟩) (by have := HB4.out.size; first | (simp; done) | (have := World.block_lt_of_cell? _ _ A5; exact this))).trans A5
            have B0 := (hb4.cell (p := ⟨w.heap.size + 1, 0, none⟩) (by have := HB4.out.size; first | (simp; done) | (have := World.block_lt_of_cell? _ _ B0; exact this))).trans B0
            have B1 := (hb4.cell (p := ⟨w.heap.size + 1, 1, none⟩) (by have := HB4.out.size; first | (simp; done) | (have := World.block_lt_of_cell? _ _ B1; exact this))).trans B1
            have B2 := (hb4.cell (p := ⟨w.heap.size + 1, 2, none⟩) (by have := HB4.out.size; first | (simp; done) | (have := World.block_lt_of_cell? _ _ B2; exact this))).trans B2
            have B3 := (hb4.cell (p := ⟨w.heap.size + 1, 3, none⟩) (by have := HB4.out.size; first | (simp; done) | (have := World.block_lt_of_cell? _ _ B3; exact this))).trans B3
            have B4 := (hb4.cell (p := ⟨w.heap.size + 1, 4, none⟩) (by have := HB4.out.size; first | (simp; done) | (have := World.block_lt_of_cell? _ _ B4; exact this))).trans B4
            have B5 := (hb4.cell (p := ⟨w.heap.size + 1, 5, none⟩) (by have := HB4.out.size; first | (simp; done) | (have := World.block_lt_of_cell? _ _ B5; exact this))).trans B5
            have HB5 : Hid (Below w.heap.size w u4) := Lib.hid (HB4.out.trans (hb4.mono HB4.out.size))
            clear hb4 HC4
            cases x4
            · have hq4 : (L.eq Lp) = false := HX4.out.symm
              have HT : Hid (X = false) := Lib.hid (by rw [HX.out, hq0, hq1, hq2, HQ3.out, hq4]; rfl)
              clear hq4
              go_wp2_with fail
              go_ret
              exact ⟨by rw [HT.out]; rfl, HB5.out⟩
            · have HQ4 : Hid ((L.eq Lp) = true) := Lib.hid HX4.out.symm
              have HC5 := eqfAl_any m (sameAlt_any m HI.out) alts altsp (by have := HCO.out; simp only [Ex.cost] at this; omega) HW.out.2.1 HW.out.2.2.2 _ _ u4 (HA.out.mono HB5.out.size fun _ _ p q => ExIn.below HB5.out p q) (HAp.out.mono HB5.out.size fun _ _ p q => ExIn.below HB5.out p q)
              obtain ⟨x5, hx5⟩ : ∃ zz, zz = (alts.eq altsp) := ⟨_, rfl⟩
              rw [← hx5] at HC5
              have HC5 := Lib.hid HC5
              have HX5 := Lib.hid hx5
              clear hx5
              go_wp2_with fail
              refine HC5.out.mono ?_
              rintro e u5 ⟨rfl, hb5⟩
              have A0 := (hb5.cell (p := ⟨w.heap.size, 0, none⟩) (by have := HB5.out.size; first | (simp; done) | (have := World.block_lt_of_cell? _ _ A0; exact this))).trans A0
              have A1 := (hb5.cell (p := ⟨w.heap.size, 1, none⟩) (by have := HB5.out.size; first | (simp; done) | (have := World.block_lt_of_cell? _ _ A1; exact this))).trans A1
              have A2 := (hb5.cell (p := ⟨w.heap.size, 2, none⟩) (by have := HB5.out.size; first | (simp; done) | (have := World.block_lt_of_cell? _ _ A2; exact this))).trans A2
              have A3 := (hb5.cell (p := ⟨w.heap.size, 3, none⟩) (by have := HB5.out.size; first | (simp; done) | (have := World.block_lt_of_cell? _ _ A3; exact this))).trans A3
              have A4 := (hb5.cell (p := ⟨w.heap.size, 4, none⟩) (by have := HB5.out.size; first | (simp; done) | (have := World.block_lt_of_cell? _ _ A4; exact this))).trans A4
              have A5 := (hb5.cell (p := ⟨w.heap.size, 5, none⟩) (by have := HB5.out.size; first | (simp; done) | (have := World.block_lt_of_cell? _ _ A5; exact this))).trans A5
              have B0 := (hb5.cell (p := ⟨w.heap.size + 1, 0, none⟩) (by have := HB5.out.size; first | (simp; done) | (have := World.block_lt_of_cell? _ _ B0; exact this))).trans B0
              have B1 := (hb5.cell (p := ⟨w.heap.size + 1, 1, none⟩) (by have := HB5.out.size; first | (simp; done) | (have := World.block_lt_of_cell? _ _ B1; exact this))).trans B1
              have B2 := (hb5.cell (p := ⟨w.heap.size + 1, 2, none⟩) (by have := HB5.out.size; first | (simp; done) | (have := World.block_lt_of_cell? _ _ B2; exact this))).trans B2
              have B3 := (hb5.cell (p := ⟨w.heap.size + 1, 3, none⟩) (by have := HB5.out.size; first | (simp; done) | (have := World.block_lt_of_cell? _ _ B3; exact this))).trans B3
              have B4 := (hb5.cell (p := ⟨w.heap.size + 1, 4, none⟩) (by have := HB5.out.size; first | (simp; done) | (have := World.block_lt_of_cell? _ _ B4; exact this))).trans B4
              have B5 := (hb5.cell (p := ⟨w.heap.size + 1, 5, none⟩) (by have := HB5.out.size; first | (simp; done) | (have := World.block_lt_of_cell? _ _ B5; exact this))).trans B5
              have HB6 : Hid (Below w.heap.size w u5) := Lib.hid (HB5.out.trans (hb5.mono HB5.out.size))
              clear hb5 HC5
              cases x5
              · have hq5 : (alts.eq altsp) = false := HX5.out.symm
                have HT : Hid (X = false) := Lib.hid (by rw [HX.out, hq0, hq1, hq2, HQ3.out, HQ4.out, hq5]; rfl)
                clear hq5
                go_wp2_with fail
                go_ret
                exact ⟨by rw [HT.out]; rfl, HB6.out⟩
              · have HQ5 : Hid ((alts.eq altsp) = true) := Lib.hid HX5.out.symm
                have HT : Hid (X = true) := Lib.hid (by rw [HX.out, hq0, hq1, hq2, HQ3.out, HQ4.out, HQ5.out]; rfl)
                go_wp2_with fail
                go_ret
                exact ⟨by rw [HT.out]; rfl, HB6.out⟩
end Go.Proofs.YtledjcplbldokaaGreatDoor
