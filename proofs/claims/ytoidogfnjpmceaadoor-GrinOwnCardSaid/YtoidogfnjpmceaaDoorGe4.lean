/- grin.sameBranch, sameStep: whether two steps are the same. No conditions. -/
import Derived.Test.YtoidogfnjpmceaaDoorGe1
import Derived.Test.YtoidogfnjpmceaaDoorGe2
import Derived.Test.YtoidogfnjpmceaaDoorGe3
import Derived.Deep.RegionHeld3
import Derived.Deep.DrawnRows
namespace Go.Proofs.YtoidogfnjpmceaaDoor
open Go.ChangeShapes Go.WideShapes Go.ChangeAt Go.RowKit
attribute [local go_sem ↓] Go.wp_at_zero Go.wp_at_succ

set_option maxRecDepth 100000 in
set_option maxHeartbeats 8000000 in
theorem sameBranch_any (m : Nat) (HE : ∀ e e' : St, e.cost ≤ m → ∀ (v v' : Value) (w : World), StV w e v → StV w e' v' → Calls Tryd.prog 68 #[v, v'] w (Grew (.bool (e.eq e')) w)) :
    ∀ e e' : St, e.cost ≤ m → ∀ (v v' : Value) (w : World), BrV w e v → BrV w e' v' → Calls Tryd.prog 84 #[v, v'] w (Grew (.bool (e.eq e')) w) := by
  intro e e' hcost v v' w hv hv'
  have HI := Lib.hid HE
  obtain ⟨take, t, num, steps, a1, n1, c1, rfl, rfl, -, -, -, -, -, hwf, hs⟩ := hv
  obtain ⟨takep, tp, nump, stepsp, a1p, n1p, c1p, rfl, rfl, -, -, -, -, -, hwfp, hsp⟩ := hv'
  obtain ⟨X, hX⟩ : ∃ X, X = (St.br take t num steps .nil).eq (.br takep tp nump stepsp .nil) := ⟨_, rfl⟩
  have HX : Hid (X = (take == takep && (tgEq t tp && (num == nump && steps.eq stepsp)))) := Lib.hid (by rw [hX]; simp [St.eq])
  rw [← hX]
  have HS := Lib.hid hs
  have HSp := Lib.hid hsp
  have HW := Lib.hid (And.intro hwf hwfp)
  have HCO := Lib.hid hcost
  clear HE hs hsp hX hcost hwf hwfp
  have HB0 : Hid (Below w.heap.size w ((w.alloc (.cells #[.int .i64 take, .int .i64 t.k, .string t.s, .int .i64 t.n, .int .i64 num, .slice a1 n1 c1] 63)).alloc (.cells #[.int .i64 takep, .int .i64 tp.k, .string tp.s, .int .i64 tp.n, .int .i64 nump, .slice a1p n1p c1p] 63))) := Lib.hid (((Below.refl _ w).alloc (Nat.le_refl _) _).alloc (by simp) _)
  have hA := box2a w #[.int .i64 take, .int .i64 t.k, .string t.s, .int .i64 t.n, .int .i64 num, .slice a1 n1 c1] #[.int .i64 takep, .int .i64 tp.k, .string tp.s, .int .i64 tp.n, .int .i64 nump, .slice a1p n1p c1p] 63 63
  have hB := box2b w #[.int .i64 take, .int .i64 t.k, .string t.s, .int .i64 t.n, .int .i64 num, .slice a1 n1 c1] #[.int .i64 takep, .int .i64 tp.k, .string tp.s, .int .i64 tp.n, .int .i64 nump, .slice a1p n1p c1p] 63 63
  have A0 := hA 0 (.int .i64 take) rfl
  have A1 := hA 1 (.int .i64 t.k) rfl
  have A2 := hA 2 (.string t.s) rfl
  have A3 := hA 3 (.int .i64 t.n) rfl
  have A4 := hA 4 (.int .i64 num) rfl
  have A5 := hA 5 (.slice a1 n1 c1) rfl
  have B0 := hB 0 (.int .i64 takep) rfl
  have B1 := hB 1 (.int .i64 tp.k) rfl
  have B2 := hB 2 (.string tp.s) rfl
  have B3 := hB 3 (.int .i64 tp.n) rfl
  have B4 := hB 4 (.int .i64 nump) rfl
  have B5 := hB 5 (.slice a1p n1p c1p) rfl
  clear hA hB
  cases hq0 : (take == takep)
  · have HT : Hid (X = false) := Lib.hid (by rw [HX.out, hq0]; rfl)
    go_enter Tryd.func84, Tryd.ntmps84
    go_wp2_with fail
    go_ret
    exact ⟨by rw [HT.out]; rfl, HB0.out⟩
  · obtain ⟨x1, hx1⟩ : ∃ zz, zz = (tgEq t tp) := ⟨_, rfl⟩
    have heq1 := tagEql t tp
    have hgd1 := fun a b => tagEql_g .eql a b t tp
    rw [← hx1] at heq1
    cases x1
    · have hq1 : (tgEq t tp) = false := hx1.symm
      clear hx1
      have HT : Hid (X = false) := Lib.hid (by rw [HX.out, hq0, hq1]; rfl)
      clear hq1
      go_enter Tryd.func84, Tryd.ntmps84
      go_wp2_with fail
      go_ret
      exact ⟨by rw [HT.out]; rfl, HB0.out⟩
    · have HQ1 : Hid ((tgEq t tp) = true) := Lib.hid hx1.symm
      clear hx1
      cases hq2 : (num == nump)
      · have HT : Hid (X = false) := Lib.hid (by rw [HX.out, hq0, HQ1.out, hq2]; rfl)
        go_enter Tryd.func84, Tryd.ntmps84
        go_wp2_with fail
        go_ret
        exact ⟨by rw [HT.out]; rfl, HB0.out⟩
      · have HC3 := eqfSt_any m HI.out steps stepsp (by have := HCO.out; simp only [St.cost] at this; omega) HW.out.1 HW.out.2 _ _ ((w.alloc (.cells #[.int .i64 take, .int .i64 t.k, .string t.s, .int .i64 t.n, .int .i64 num, .slice a1 n1 c1] 63)).alloc (.cells #[.int .i64 takep, .int .i64 tp.k, .string tp.s, .int .i64 tp.n, .int .i64 nump, .slice a1p n1p c1p] 63)) (HS.out.mono HB0.out.size fun _ _ p q => StIn.below HB0.out p q) (HSp.out.mono HB0.out.size fun _ _ p q => StIn.below HB0.out p q)
        obtain ⟨x3, hx3⟩ : ∃ zz, zz = (steps.eq stepsp) := ⟨_, rfl⟩
        rw [← hx3] at HC3
        have HC3 := Lib.hid HC3
        have HX3 := Lib.hid hx3
        clear hx3
        go_enter Tryd.func84, Tryd.ntmps84
        go_wp2_with fail
        refine HC3.out.mono ?_
        rintro e u3 ⟨rfl, hb3⟩
        have A0 := (hb3.cell (p := ⟨w.heap.size, 0, none⟩) (by have := HB0.out.size; first | (simp; done) | (have := World.block_lt_of_cell? _ _ A0; exact this))).trans A0
        have A1 := (hb3.cell (p := ⟨w.heap.size, 1, none⟩) (by have := HB0.out.size; first | (simp; done) | (have := World.block_lt_of_cell? _ _ A1; exact this))).trans A1
        have A2 := (hb3.cell (p := ⟨w.heap.size, 2, none⟩) (by have := HB0.out.size; first | (simp; done) | (have := World.block_lt_of_cell? _ _ A2; exact this))).trans A2
        have A3 := (hb3.cell (p := ⟨w.heap.size, 3, none⟩) (by have := HB0.out.size; first | (simp; done) | (have := World.block_lt_of_cell? _ _ A3; exact this))).trans A3
        have A4 := (hb3.cell (p := ⟨w.heap.size, 4, none⟩) (by have := HB0.out.size; first | (simp; done) | (have := World.block_lt_of_cell? _ _ A4; exact this))).trans A4
        have A5 := (hb3.cell (p := ⟨w.heap.size, 5, none⟩) (by have := HB0.out.size; first | (simp; done) | (have := World.block_lt_of_cell? _ _ A5; exact this))).trans A5
        have B0 := (hb3.cell (p := ⟨w.heap.size + 1, 0, none⟩) (by have := HB0.out.size; first | (simp; done) | (have := World.block_lt_of_cell? _ _ B0; exact this))).trans B0
        have B1 := (hb3.cell (p := ⟨w.heap.size + 1, 1, none⟩) (by have := HB0.out.size; first | (simp; done) | (have := World.block_lt_of_cell? _ _ B1; exact this))).trans B1
        have B2 := (hb3.cell (p := ⟨w.heap.size + 1, 2, none⟩) (by have := HB0.out.size; first | (simp; done) | (have := World.block_lt_of_cell? _ _ B2; exact this))).trans B2
        have B3 := (hb3.cell (p := ⟨w.heap.size + 1, 3, none⟩) (by have := HB0.out.size; first | (simp; done) | (have := World.block_lt_of_cell? _ _ B3; exact this))).trans B3
        have B4 := (hb3.cell (p := ⟨w.heap.size + 1, 4, none⟩) (by have := HB0.out.size; first | (simp; done) | (have := World.block_lt_of_cell? _ _ B4; exact this))).trans B4
        have B5 := (hb3.cell (p := ⟨w.heap.size + 1, 5, none⟩) (by have := HB0.out.size; first | (simp; done) | (have := World.block_lt_of_cell? _ _ B5; exact this))).trans B5
        have HB4 : Hid (Below w.heap.size w u3) := Lib.hid (HB0.out.trans (hb3.mono HB0.out.size))
        clear hb3 HC3
        cases x3
        · have hq3 : (steps.eq stepsp) = false := HX3.out.symm
          have HT : Hid (X = false) := Lib.hid (by rw [HX.out, hq0, HQ1.out, hq2, hq3]; rfl)
          clear hq3
          go_wp2_with fail
          go_ret
          exact ⟨by rw [HT.out]; rfl, HB4.out⟩
        · have HQ3 : Hid ((steps.eq stepsp) = true) := Lib.hid HX3.out.symm
          have HT : Hid (X = true) := Lib.hid (by rw [HX.out, hq0, HQ1.out, hq2, HQ3.out]; rfl)
          go_wp2_with fail
          go_ret
          exact ⟨by rw [HT.out]; rfl, HB4.out⟩
set_option maxRecDepth 100000 in
set_option maxHeartbeats 8000000 in
theorem sameStep_any (m : Nat) : ∀ e e' : St, e.cost ≤ m → ∀ (v v' : Value) (w : World), StV w e v → StV w e' v' → Calls Tryd.prog 68 #[v, v'] w (Grew (.bool (e.eq e')) w) := by
  induction m with
  | zero =>
    intro e e' h v v' w hv
    obtain ⟨op, to, nm, t, vals, alts, num, a1, n1, c1, a2, n2, c2, rfl, -⟩ := hv
    simp only [St.cost] at h; omega
  | succ m IH =>
    intro e e' hcost v v' w hv hv'
    have HI := Lib.hid IH
    obtain ⟨op, to, nm, t, vals, alts, num, a1, n1, c1, a2, n2, c2, rfl, rfl, -, -, -, -, -, -, -, hwf, hs, hk⟩ := hv
    obtain ⟨opp, top, nmp, tp, valsp, altsp, nump, a1p, n1p, c1p, a2p, n2p, c2p, rfl, rfl, -, -, -, -, -, -, -, hwfp, hsp, hkp⟩ := hv'
    obtain ⟨X, hX⟩ : ∃ X, X = (St.step op to nm t vals alts num .nil).eq (.step opp top nmp tp valsp altsp nump .nil) := ⟨_, rfl⟩
    have HX : Hid (X = (op == opp && (to.toList == top.toList && (nm.toList == nmp.toList && (tgEq t tp && (num == nump && (vlEq vals valsp && alts.eq altsp))))))) := Lib.hid (by rw [hX]; simp [St.eq])
    rw [← hX]
    have HS := Lib.hid hs
    have HSp := Lib.hid hsp
    have HK := Lib.hid hk
    have HKp := Lib.hid hkp
    have HW := Lib.hid (And.intro hwf hwfp)
    have HCO := Lib.hid hcost
    clear IH hs hsp hk hkp hX hcost hwf hwfp
    have HB0 : Hid (Below w.heap.size w ((w.alloc (.cells #[.int .i64 op, .string to, .string nm, .int .i64 t.k, .string t.s, .int .i64 t.n, .slice a1 n1 c1, .slice a2 n2 c2, .int .i64 num] 29)).alloc (.cells #[.int .i64 opp, .string top, .string nmp, .int .i64 tp.k, .string tp.s, .int .i64 tp.n, .slice a1p n1p c1p, .slice a2p n2p c2p, .int .i64 nump] 29))) := Lib.hid (((Below.refl _ w).alloc (Nat.le_refl _) _).alloc (by simp) _)
    have hA := box2a w #[.int .i64 op, .string to, .string nm, .int .i64 t.k, .string t.s, .int .i64 t.n, .slice a1 n1 c1, .slice a2 n2 c2, .int .i64 num] #[.int .i64 opp, .string top, .string nmp, .int .i64 tp.k, .string tp.s, .int .i64 tp.n, .slice a1p n1p c1p, .slice a2p n2p c2p, .int .i64 nump] 29 29
    have hB := box2b w #[.int .i64 op, .string to, .string nm, .int .i64 t.k, .string t.s, .int .i64 t.n, .slice a1 n1 c1, .slice a2 n2 c2, .int .i64 num] #[.int .i64 opp, .string top, .string nmp, .int .i64 tp.k, .string tp.s, .int .i64 tp.n, .slice a1p n1p c1p, .slice a2p n2p c2p, .int .i64 nump] 29 29
    have A0 := hA 0 (.int .i64 op) rfl
    have A1 := hA 1 (.string to) rfl
    have A2 := hA 2 (.string nm) rfl
    have A3 := hA 3 (.int .i64 t.k) rfl
    have A4 := hA 4 (.string t.s) rfl
    have A5 := hA 5 (.int .i64 t.n) rfl
    have A6 := hA 6 (.slice a1 n1 c1) rfl
    have A7 := hA 7 (.slice a2 n2 c2) rfl
    have A8 := hA 8 (.int .i64 num) rfl
    have B0 := hB 0 (.int .i64 opp) rfl
    have B1 := hB 1 (.string top) rfl
    have B2 := hB 2 (.string nmp) rfl
    have B3 := hB 3 (.int .i64 tp.k) rfl
    have B4 := hB 4 (.string tp.s) rfl
    have B5 := hB 5 (.int .i64 tp.n) rfl
    have B6 := hB 6 (.slice a1p n1p c1p) rfl
    have B7 := hB 7 (.slice a2p n2p c2p) rfl
    have B8 := hB 8 (.int .i64 nump) rfl
    clear hA hB
    cases hq0 : (op == opp)
    · have HT : Hid (X = false) := Lib.hid (by rw [HX.out, hq0]; rfl)
      go_enter Tryd.func68, Tryd.ntmps68
      go_wp2_with fail
      go_ret
      exact ⟨by rw [HT.out]; rfl, HB0.out⟩
    · cases hq1 : (to.toList == top.toList)
      · have HT : Hid (X = false) := Lib.hid (by rw [HX.out, hq0, hq1]; rfl)
        go_enter Tryd.func68, Tryd.ntmps68
        go_wp2_with fail
        go_ret
        exact ⟨by rw [HT.out]; rfl, HB0.out⟩
      · cases hq2 : (nm.toList == nmp.toList)
        · have HT : Hid (X = false) := Lib.hid (by rw [HX.out, hq0, hq1, hq2]; rfl)
          go_enter Tryd.func68, Tryd.ntmps68
          go_wp2_with fail
          go_ret
          exact ⟨by rw [HT.out]; rfl, HB0.out⟩
        · obtain ⟨x3, hx3⟩ : ∃ zz, zz = (tgEq t tp) := ⟨_, rfl⟩
          have heq3 := tagEql t tp
          have hgd3 := fun a b => tagEql_g .eql a b t tp
          rw [← hx3] at heq3
          cases x3
          · have hq3 : (tgEq t tp) = false := hx3.symm
            clear hx3
            have HT : Hid (X = false) := Lib.hid (by rw [HX.out, hq0, hq1, hq2, hq3]; rfl)
            clear hq3
            go_enter Tryd.func68, Tryd.ntmps68
            go_wp2_with fail
            go_ret
            exact ⟨by rw [HT.out]; rfl, HB0.out⟩
          · have HQ3 : Hid ((tgEq t tp) = true) := Lib.hid hx3.symm
            clear hx3
            cases hq4 : (num == nump)
            · have HT : Hid (X = false) := Lib.hid (by rw [HX.out, hq0, hq1, hq2, HQ3.out, hq4]; rfl)
              go_enter Tryd.func68, Tryd.ntmps68
              go_wp2_with fail
              go_ret
              exact ⟨by rw [HT.out]; rfl, HB0.out⟩
            · have HC5 := vlEqual_any vals valsp _ _ ((w.alloc (.cells #[.int .i64 op, .string to, .string nm, .int .i64 t.k, .string t.s, .int .i64 t.n, .slice a1 n1 c1, .slice a2 n2 c2, .int .i64 num] 29)).alloc (.cells #[.int .i64 opp, .string top, .string nmp, .int .i64 tp.k, .string tp.s, .int .i64 tp.n, .slice a1p n1p c1p, .slice a2p n2p c2p, .int .i64 nump] 29)) (HS.out.mono HB0.out.size fun _ _ p q => VlIn.below HB0.out p q) (HSp.out.mono HB0.out.size fun _ _ p q => VlIn.below HB0.out p q)
              obtain ⟨x5, hx5⟩ : ∃ zz, zz = (vlEq vals valsp) := ⟨_, rfl⟩
              rw [← hx5] at HC5
              have HC5 := Lib.hid HC5
              have HX5 := Lib.hid hx5
              clear hx5
              go_enter Tryd.func68, Tryd.ntmps68
              go_wp2_with fail
              refine HC5.out.mono ?_
              rintro e u5 ⟨rfl, hb5⟩
              have A0 := (hb5.cell (p := ⟨w.heap.size, 0, none⟩) (by have := HB0.out.size; first | (simp; done) | (have := World.block_lt_of_cell? _ _ A0; exact this))).trans A0
              have A1 := (hb5.cell (p := ⟨w.heap.size, 1, none⟩) (by have := HB0.out.size; first | (simp; done) | (have := World.block_lt_of_cell? _ _ A1; exact this))).trans A1
              have A2 := (hb5.cell (p := ⟨w.heap.size, 2, none⟩) (by have := HB0.out.size; first | (simp; done) | (have := World.block_lt_of_cell? _ _ A2; exact this))).trans A2
              have A3 := (hb5.cell (p := ⟨w.heap.size, 3, none⟩) (by have := HB0.out.size; first | (simp; done) | (have := World.block_lt_of_cell? _ _ A3; exact this))).trans A3
              have A4 := (hb5.cell (p := ⟨w.heap.size, 4, none⟩) (by have := HB0.out.size; first | (simp; done) | (have := World.block_lt_of_cell? _ _ A4; exact this))).trans A4
              have A5 := (hb5.cell (p := ⟨w.heap.size, 5, none⟩) (by have := HB0.out.size; first | (simp; done) | (have := World.block_lt_of_cell? _ _ A5; exact this))).trans A5
              have A6 := (hb5.cell (p := ⟨w.heap.size, 6, none⟩) (by have := HB0.out.size; first | (simp; done) | (have := World.block_lt_of_cell? _ _ A6; exact this))).trans A6
              have A7 := (hb5.cell (p := ⟨w.heap.size, 7, none⟩) (by have := HB0.out.size; first | (simp; done) | (have := World.block_lt_of_cell? _ _ A7; exact this))).trans A7
              have A8 := (hb5.cell (p := ⟨w.heap.size, 8, none⟩) (by have := HB0.out.size; first | (simp; done) | (have := World.block_lt_of_cell? _ _ A8; exact this))).trans A8
              have B0 := (hb5.cell (p := ⟨w.heap.size + 1, 0, none⟩) (by have := HB0.out.size; first | (simp; done) | (have := World.block_lt_of_cell? _ _ B0; exact this))).trans B0
              have B1 := (hb5.cell (p := ⟨w.heap.size + 1, 1, none⟩) (by have := HB0.out.size; first | (simp; done) | (have := World.block_lt_of_cell? _ _ B1; exact this))).trans B1
              have B2 := (hb5.cell (p := ⟨w.heap.size + 1, 2, none⟩) (by have := HB0.out.size; first | (simp; done) | (have := World.block_lt_of_cell? _ _ B2; exact this))).trans B2
              have B3 := (hb5.cell (p := ⟨w.heap.size + 1, 3, none⟩) (by have := HB0.out.size; first | (simp; done) | (have := World.block_lt_of_cell? _ _ B3; exact this))).trans B3
              have B4 := (hb5.cell (p := ⟨w.heap.size + 1, 4, none⟩) (by have := HB0.out.size; first | (simp; done) | (have := World.block_lt_of_cell? _ _ B4; exact this))).trans B4
              have B5 := (hb5.cell (p := ⟨w.heap.size + 1, 5, none⟩) (by have := HB0.out.size; first | (simp; done) | (have := World.block_lt_of_cell? _ _ B5; exact this))).trans B5
              have B6 := (hb5.cell (p := ⟨w.heap.size + 1, 6, none⟩) (by have := HB0.out.size; first | (simp; done) | (have := World.block_lt_of_cell? _ _ B6; exact this))).trans B6
              have B7 := (hb5.cell (p := ⟨w.heap.size + 1, 7, none⟩) (by have := HB0.out.size; first | (simp; done) | (have := World.block_lt_of_cell? _ _ B7; exact this))).trans B7
              have B8 := (hb5.cell (p := ⟨w.heap.size + 1, 8, none⟩) (by have := HB0.out.size; first | (simp; done) | (have := World.block_lt_of_cell? _ _ B8; exact this))).trans B8
              have HB6 : Hid (Below w.heap.size w u5) := Lib.hid (HB0.out.trans (hb5.mono HB0.out.size))
              clear hb5 HC5
              cases x5
              · have hq5 : (vlEq vals valsp) = false := HX5.out.symm
                have HT : Hid (X = false) := Lib.hid (by rw [HX.out, hq0, hq1, hq2, HQ3.out, hq4, hq5]; rfl)
                clear hq5
                go_wp2_with fail
                go_ret
                exact ⟨by rw [HT.out]; rfl, HB6.out⟩
              · have HQ5 : Hid ((vlEq vals valsp) = true) := Lib.hid HX5.out.symm
                have HC6 := eqfBr_any m (sameBranch_any m HI.out) alts altsp (by have := HCO.out; simp only [St.cost] at this; omega) HW.out.1 HW.out.2 _ _ u5 (HK.out.mono HB6.out.size fun _ _ p q => StIn.below HB6.out p q) (HKp.out.mono HB6.out.size fun _ _ p q => StIn.below HB6.out p q)
                obtain ⟨x6, hx6⟩ : ∃ zz, zz = (alts.eq altsp) := ⟨_, rfl⟩
                rw [← hx6] at HC6
                have HC6 := Lib.hid HC6
                have HX6 := Lib.hid hx6
                clear hx6
                go_wp2_with fail
                refine HC6.out.mono ?_
                rintro e u6 ⟨rfl, hb6⟩
                have A0 := (hb6.cell (p := ⟨w.heap.size, 0, none⟩) (by have := HB6.out.size; first | (simp; done) | (have := World.block_lt_of_cell? _ _ A0; exact this))).trans A0
                have A1 := (hb6.cell (p := ⟨w.heap.size, 1, none⟩) (by have := HB6.out.size; first | (simp; done) | (have := World.block_lt_of_cell? _ _ A1; exact this))).trans A1
                have A2 := (hb6.cell (p := ⟨w.heap.size, 2, none⟩) (by have := HB6.out.size; first | (simp; done) | (have := World.block_lt_of_cell? _ _ A2; exact this))).trans A2
                have A3 := (hb6.cell (p := ⟨w.heap.size, 3, none⟩) (by have := HB6.out.size; first | (simp; done) | (have := World.block_lt_of_cell? _ _ A3; exact this))).trans A3
                have A4 := (hb6.cell (p := ⟨w.heap.size, 4, none⟩) (by have := HB6.out.size; first | (simp; done) | (have := World.block_lt_of_cell? _ _ A4; exact this))).trans A4
                have A5 := (hb6.cell (p := ⟨w.heap.size, 5, none⟩) (by have := HB6.out.size; first | (simp; done) | (have := World.block_lt_of_cell? _ _ A5; exact this))).trans A5
                have A6 := (hb6.cell (p := ⟨w.heap.size, 6, none⟩) (by have := HB6.out.size; first | (simp; done) | (have := World.block_lt_of_cell? _ _ A6; exact this))).trans A6
                have A7 := (hb6.cell (p := ⟨w.heap.size, 7, none⟩) (by have := HB6.out.size; first | (simp; done) | (have := World.block_lt_of_cell? _ _ A7; exact this))).trans A7
                have A8 := (hb6.cell (p := ⟨w.heap.size, 8, none⟩) (by have := HB6.out.size; first | (simp; done) | (have := World.block_lt_of_cell? _ _ A8; exact this))).trans A8
                have B0 := (hb6.cell (p := ⟨w.heap.size + 1, 0, none⟩) (by have := HB6.out.size; first | (simp; done) | (have := World.block_lt_of_cell? _ _ B0; exact this))).trans B0
                have B1 := (hb6.cell (p := ⟨w.heap.size + 1, 1, none⟩) (by have := HB6.out.size; first | (simp; done) | (have := World.block_lt_of_cell? _ _ B1; exact this))).trans B1
                have B2 := (hb6.cell (p := ⟨w.heap.size + 1, 2, none⟩) (by have := HB6.out.size; first | (simp; done) | (have := World.block_lt_of_cell? _ _ B2; exact this))).trans B2
                have B3 := (hb6.cell (p := ⟨w.heap.size + 1, 3, none⟩) (by have := HB6.out.size; first | (simp; done) | (have := World.block_lt_of_cell? _ _ B3; exact this))).trans B3
                have B4 := (hb6.cell (p := ⟨w.heap.size + 1, 4, none⟩) (by have := HB6.out.size; first | (simp; done) | (have := World.block_lt_of_cell? _ _ B4; exact this))).trans B4
                have B5 := (hb6.cell (p := ⟨w.heap.size + 1, 5, none⟩) (by have := HB6.out.size; first | (simp; done) | (have := World.block_lt_of_cell? _ _ B5; exact this))).trans B5
                have B6 := (hb6.cell (p := ⟨w.heap.size + 1, 6, none⟩) (by have := HB6.out.size; first | (simp; done) | (have := World.block_lt_of_cell? _ _ B6; exact this))).trans B6
                have B7 := (hb6.cell (p := ⟨w.heap.size + 1, 7, none⟩) (by have := HB6.out.size; first | (simp; done) | (have := World.block_lt_of_cell? _ _ B7; exact this))).trans B7
                have B8 := (hb6.cell (p := ⟨w.heap.size + 1, 8, none⟩) (by have := HB6.out.size; first | (simp; done) | (have := World.block_lt_of_cell? _ _ B8; exact this))).trans B8
                have HB7 : Hid (Below w.heap.size w u6) := Lib.hid (HB6.out.trans (hb6.mono HB6.out.size))
                clear hb6 HC6
                cases x6
                · have hq6 : (alts.eq altsp) = false := HX6.out.symm
                  have HT : Hid (X = false) := Lib.hid (by rw [HX.out, hq0, hq1, hq2, HQ3.out, hq4, HQ5.out, hq6]; rfl)
                  clear hq6
                  go_wp2_with fail
                  go_ret
                  exact ⟨by rw [HT.out]; rfl, HB7.out⟩
                · have HQ6 : Hid ((alts.eq altsp) = true) := Lib.hid HX6.out.symm
                  have HT : Hid (X = true) := Lib.hid (by rw [HX.out, hq0, hq1, hq2, HQ3.out, hq4, HQ5.out, HQ6.out]; rfl)
                  go_wp2_with fail
                  go_ret
                  exact ⟨by rw [HT.out]; rfl, HB7.out⟩
end Go.Proofs.YtoidogfnjpmceaaDoor
