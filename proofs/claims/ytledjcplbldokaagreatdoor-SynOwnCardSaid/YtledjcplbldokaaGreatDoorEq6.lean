/- syn.sameType: whether two types are the same. No conditions. -/
import Derived.Test.YtledjcplbldokaaGreatDoorEq3
import Derived.Deep.RegionHeld3
import Derived.Deep.DrawnRows
namespace Go.Proofs.YtledjcplbldokaaGreatDoor
open Go.ChangeShapes Go.WideShapes Go.ChangeAt Go.RowKit
attribute [local go_sem ↓] Go.wp_at_zero Go.wp_at_succ

set_option maxRecDepth 100000 in
set_option maxHeartbeats 8000000 in
theorem sameType_any (m : Nat) : ∀ e e' : Ty, e.cost ≤ m → ∀ (v v' : Value) (w : World), TyV w e v → TyV w e' v' → Calls Tryz.prog 68 #[v, v'] w (Grew (.bool (e.eq e')) w) := by
  induction m with
  | zero =>
    intro e e' h v v' w hv
    obtain ⟨nm, args, n, a, c, rfl, -⟩ := hv
    simp only [Ty.cost] at h; omega
  | succ m IH =>
    intro e e' hcost v v' w hv hv'
    have HI := Lib.hid IH
    obtain ⟨nm, args, n1, a1, c1, rfl, rfl, hnm, hs⟩ := hv
    obtain ⟨nmp, argsp, n1p, a1p, c1p, rfl, rfl, hnmp, hsp⟩ := hv'
    obtain ⟨X, hX⟩ : ∃ X, X = (Ty.node nm args .nil).eq (.node nmp argsp .nil) := ⟨_, rfl⟩
    have HX : Hid (X = (nm.toList == nmp.toList && args.eq argsp)) := Lib.hid (by rw [hX]; simp [Ty.eq])
    rw [← hX]
    have HS := Lib.hid hs
    have HSp := Lib.hid hsp
    have HCO := Lib.hid hcost
    clear IH hs hsp hX hcost
    have HB0 : Hid (Below w.heap.size w ((w.alloc (.cells #[.string nm, .slice a1 n1 c1] 50)).alloc (.cells #[.string nmp, .slice a1p n1p c1p] 50))) := Lib.hid (((Below.refl _ w).alloc (Nat.le_refl _) _).alloc (by simp) _)
    have hA := box2a w #[.string nm, .slice a1 n1 c1] #[.string nmp, .slice a1p n1p c1p] 50 50
    have hB := box2b w #[.string nm, .slice a1 n1 c1] #[.string nmp, .slice a1p n1p c1p] 50 50
    have A0 := hA 0 (.string nm) rfl
    have A1 := hA 1 (.slice a1 n1 c1) rfl
    have B0 := hB 0 (.string nmp) rfl
    have B1 := hB 1 (.slice a1p n1p c1p) rfl
    clear hA hB
    cases hq0 : (nm.toList == nmp.toList)
    · have HT : Hid (X = false) := Lib.hid (by rw [HX.out, hq0]; rfl)
      go_enter Tryz.func68, Tryz.ntmps68
      go_wp2_with fail
      go_ret
      exact ⟨by rw [HT.out]; rfl, HB0.out⟩
    · have HC1 := eqfTy_any m HI.out args argsp (by have := HCO.out; simp only [Ty.cost] at this; omega) _ _ ((w.alloc (.cells #[.string nm, .slice a1 n1 c1] 50)).alloc (.cells #[.string nmp, .slice a1p n1p c1p] 50)) (HS.out.mono HB0.out.size fun _ _ p q => TyIn.below HB0.out p q) (HSp.out.mono HB0.out.size fun _ _ p q => TyIn.below HB0.out p q)
      obtain ⟨x1, hx1⟩ : ∃ zz, zz = (args.eq argsp) := ⟨_, rfl⟩
      rw [← hx1] at HC1
      have HC1 := Lib.hid HC1
      have HX1 := Lib.hid hx1
      clear hx1
      go_enter Tryz.func68, Tryz.ntmps68
      go_wp2_with fail
      refine HC1.out.mono ?_
      rintro e u1 ⟨rfl, hb1⟩
      have A0 := (hb1.cell (p := ⟨w.heap.size, 0, none⟩) (by have := HB0.out.size; first | (simp; done) | (have := World.block_lt_of_cell? _ _ A0; exact this))).trans A0
      have A1 := (hb1.cell (p := ⟨w.heap.size, 1, none⟩) (by have := HB0.out.size; first | (simp; done) | (have := World.block_lt_of_cell? _ _ A1; exact this))).trans A1
      have B0 := (hb1.cell (p := ⟨w.heap.size + 1, 0, none⟩) (by have := HB0.out.size; first | (simp; done) | (have := World.block_lt_of_cell? _ _ B0; exact this))).trans B0
      have B1 := (hb1.cell (p := ⟨w.heap.size + 1, 1, none⟩) (by have := HB0.out.size; first | (simp; done) | (have := World.block_lt_of_cell? _ _ B1; exact this))).trans B1
      have HB2 : Hid (Below w.heap.size w u1) := Lib.hid (HB0.out.trans (hb1.mono HB0.out.size))
      clear hb1 HC1
      cases x1
      · have hq1 : (args.eq argsp) = false := HX1.out.symm
        have HT : Hid (X = false) := Lib.hid (by rw [HX.out, hq0, hq1]; rfl)
        clear hq1
        go_wp2_with fail
        go_ret
        exact ⟨by rw [HT.out]; rfl, HB2.out⟩
      · have HQ1 : Hid ((args.eq argsp) = true) := Lib.hid HX1.out.symm
        have HT : Hid (X = true) := Lib.hid (by rw [HX.out, hq0, HQ1.out]; rfl)
        go_wp2_with fail
        go_ret
        exact ⟨by rw [HT.out]; rfl, HB2.out⟩
end Go.Proofs.YtledjcplbldokaaGreatDoor
