/- LiftFlat: the law answers true. Conditions: first answers true, wherever it is called. -/
import Derived.Test.YtkfoohhnfaohfaaGreatDoorLf3
namespace Go.Proofs.YtkfoohhnfaohfaaGreatDoor
open Go.ChangeShapes Go.WideShapes Go.ChangeAt Go.RowKit

set_option maxRecDepth 100000 in
set_option maxHeartbeats 8000000 in
theorem liftFlat_core (ds : List Da) (fs : List De) (v : Value) (w : World) (hp : PrV w ds fs v)
    (H0 : ∀ w', Below w.heap.size w w' → Calls Tryz.prog 4 #[] w' (Grew (.bool true) w')) :
    Calls Tryz.prog 3 #[v] w (Grew (.bool true) w) := by
  have HP0 := Lib.hid hp
  obtain ⟨v1, v2, rfl, h1, h2⟩ := hp
  obtain ⟨nd, ad, cd, hnd, rfl⟩ := sl_form h1
  obtain ⟨hnf, af, cf, rfl, -, hs2⟩ := h2
  have HVF := Lib.hid hs2
  obtain ⟨nf, hnf1⟩ : ∃ n, n = fs.length := ⟨_, rfl⟩
  have HNF := Lib.hid hnf1
  rw [← hnf1] at hnf HVF HP0 ⊢
  have hx2 : (nf : Int) ≤ 140737488355328 := by have : nf ≤ 140737488355328 := hnf; omega
  have HP := Lib.hid HP0.out
  have HB0 : Hid (Below w.heap.size w (w.alloc (.cells #[.slice ad nd cd, .slice af nf cf] 25))) := Lib.hid ((Below.refl _ w).alloc (Nat.le_refl _) _)
  have hf0 := H0 (w.alloc (.cells #[.slice ad nd cd, .slice af nf cf] 25)) HB0.out
  have H0 := Lib.hid hf0
  clear hs2 hnf hnf1 h1 hf0 HP0 hnd
  go_enter Tryz.func3, Tryz.ntmps3
  go_wp2_with fail
  refine H0.out.mono ?_
  rintro e w1 ⟨rfl, hb1⟩
  have p0 : w1.cell? ⟨w.heap.size, 0, none⟩ = some (.slice ad nd cd) := by
    rw [hb1.cell (p := ⟨w.heap.size, 0, none⟩) (by simp), cell_of_row _ w.heap.size 0 _ _ _ (heap_alloc_new w _)]; rfl
  have p1 : w1.cell? ⟨w.heap.size, 1, none⟩ = some (.slice af nf cf) := by
    rw [hb1.cell (p := ⟨w.heap.size, 1, none⟩) (by simp), cell_of_row _ w.heap.size 1 _ _ _ (heap_alloc_new w _)]; rfl
  have hszw : w.heap.size < w1.heap.size := World.block_lt_of_cell? _ _ p0
  have HBA : Hid (Below w.heap.size w w1) := Lib.hid (HB0.out.trans (hb1.mono (by simp)))
  have HC := small_any ds fs (.agg #[.slice ad nd cd, .slice af nf cf]) 150 w1 (by omega) (HP.out.below HBA.out)
  have HC := Lib.hid HC
  clear hb1 HB0
  go_wp2_with fail
  refine HC.out.mono ?_
  rintro e w2 ⟨sm, rfl, hb2, hsm⟩
  have p0' := (hb2.cell (p := ⟨w.heap.size, 0, none⟩) hszw).trans p0
  have p1' := (hb2.cell (p := ⟨w.heap.size, 1, none⟩) hszw).trans p1
  have HB1 : Hid (Below w.heap.size w w2) := Lib.hid (HBA.out.trans (hb2.mono HBA.out.size))
  clear hb2 HC p0 p1 hszw HBA
  have p0 := p0'
  have p1 := p1'
  clear p0' p1'
  cases sm
  · clear hsm
    go_wp2_with fail
    go_ret
    exact ⟨rfl, HB1.out⟩
  · have hs := hsm rfl
    have HCO : Hid (deCost fs ≤ 1000000) := Lib.hid (by have := hs.cost; omega)
    have HTL : Hid (∀ i (h : i < fs.length), fs[i].2.2.tall ≤ 31) := Lib.hid fun i h => (hs.briefs i h).2.2.2
    obtain ⟨X, hX⟩ : ∃ X, X = deFlat fs := ⟨_, rfl⟩
    have HX : Hid (X = (true && deFlat (fs.drop 0))) := Lib.hid (by rw [List.drop_zero]; simpa using hX)
    have HXF : Hid (deFlat fs = X) := Lib.hid hX.symm
    have HK0 := Lib.hid p0
    have HK1 := Lib.hid p1
    clear hs hsm hX
    go_wp2_with fail
    go_loopw [4, 5] (fun vs vi wr => ∃ (i : Nat) (s : Bool), vs = .bool s ∧ vi = .int .i64 (i : Int) ∧ i ≤ nf ∧ Hid (Below w.heap.size w wr) ∧ Hid (wr.cell? ⟨w.heap.size, 0, none⟩ = some (.slice ad nd cd)) ∧ Hid (wr.cell? ⟨w.heap.size, 1, none⟩ = some (.slice af nf cf)) ∧ Hid (X = (s && deFlat (fs.drop i)))) (fun _ vi _ => nf + 1 - (intOf vi).toNat)
    case atStart => exact ⟨0, true, rfl, rfl, by omega, HB1, HK0, HK1, HX⟩
    case round =>
      clear HB1 HK0 HK1 HX p0 p1
      obtain ⟨i, s, rfl, rfl, hin, HB, HK0, HK1, HXX⟩ := hrel
      have p0 := HK0.out
      have p1 := HK1.out
      by_cases hii : (i : Int) < (nf : Int)
      · have hi0 : (0 : Int) ≤ (i : Int) := by omega
        have hilt : i < fs.length := by have := HNF.out; omega
        cases s
        · have HNX : Hid (X = (false && deFlat (fs.drop (i + 1)))) := Lib.hid (by rw [HXX.out]; rfl)
          clear hilt
          go_wp2_with fail
          go_roundw
          case rel => exact ⟨i + 1, false, rfl, by go_num, by omega, HB, HK0, HK1, HNX⟩
          case measure => simp [intOf]; omega
        · obtain ⟨b, o, rfl, hbw, ht⟩ := HVF.out (by omega)
          obtain ⟨dn, dp, op, nm, num, names, L, alts, v1, u1, u2, u3, he, hdn, c0, c1, e2, e3, e4, e5, e6, e7, hs1, hnm, hwl, hwa2, hg1, hg2, hg3⟩ := de_at ht hilt
          have hbel : ∀ k, wr.cell? ⟨b, k, none⟩ = w.cell? ⟨b, k, none⟩ := fun k => HB.out.cell (p := ⟨b, k, none⟩) hbw
          have e2' := (hbel _).trans e2
          have e3' := (hbel _).trans e3
          have e4' := (hbel _).trans e4
          have e5' := (hbel _).trans e5
          have e6' := (hbel _).trans e6
          have e7' := (hbel _).trans e7
          have hws : w.heap.size ≤ wr.heap.size := HB.out.size
          have HC := flat_any (1 + names.length + L.cost + alts.cost) op nm num names L alts (Nat.le_refl _) u1 u2 u3 wr hnm hwl hwa2 (hg1.mono hws fun _ _ p q => TxIn.below HB.out p q) (hg2.mono hws fun _ _ p q => ExIn.below HB.out p q) (hg3.mono hws fun _ _ p q => ExIn.below HB.out p q)
          obtain ⟨c, hc⟩ : ∃ c, c = exFlat op L alts := ⟨_, rfl⟩
          rw [← hc] at HC
          have HF : Hid (X = (c && deFlat (fs.drop (i + 1)))) := Lib.hid (by rw [HXX.out, deFlat_drop hilt, he, hc]; simp [Ex.flatB, exFlat])
          have HC := Lib.hid HC
          have HBX : Hid (w.heap.size < wr.heap.size) := Lib.hid (World.block_lt_of_cell? _ _ p0)
          clear hbel c0 c1 e2 e3 e4 e5 e6 e7 ht hilt he hs1 hg1 hg2 hg3 hnm hwl hwa2 hc hdn hws
          go_wp2_with fail
          refine HC.out.mono ?_
          rintro e w2 ⟨rfl, hb2⟩
          have HB2 := Lib.hid hb2
          clear hb2 HC
          go_wp2_with fail
          go_roundw
          case rel => exact ⟨i + 1, c, rfl, by go_num, by omega, Lib.hid (HB.out.trans (HB2.out.mono HB.out.size)), Lib.hid ((HB2.out.cell (p := ⟨w.heap.size, 0, none⟩) HBX.out).trans HK0.out), Lib.hid ((HB2.out.cell (p := ⟨w.heap.size, 1, none⟩) HBX.out).trans HK1.out), HF⟩
          case measure => simp [intOf]; omega
      · have HT : Hid (X = s) := Lib.hid (by rw [HXX.out, List.drop_eq_nil_of_le (by have := HNF.out; omega)]; simp [deFlat])
        have HC := Flat_any ds fs (.agg #[.slice ad nd cd, .slice af nf cf]) wr (HP.out.below HB.out) HCO.out HTL.out
        rw [HXF.out, HT.out] at HC
        have HC := Lib.hid HC
        go_wp2_with fail
        refine HC.out.mono ?_
        rintro e w2 ⟨rfl, hb2⟩
        have HB2 := Lib.hid (HB.out.trans (hb2.mono HB.out.size))
        clear hb2 HC
        have hss : (s == s) = true := by simp
        go_wp2_with fail
        go_ret
        exact ⟨by simp, HB2.out⟩
end Go.Proofs.YtkfoohhnfaohfaaGreatDoor
