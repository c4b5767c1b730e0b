/- lift.Flat: what it answers of a program that is small. Conditions: its parts are fewer than a million, its levels fewer than 32. -/
import Derived.Test.YtkfoohhnfaohfaaGreatDoorLf2
namespace Go.Proofs.YtkfoohhnfaohfaaGreatDoor
open Go.ChangeShapes Go.WideShapes Go.ChangeAt Go.RowKit

def deFlat : List De → Bool
  | [] => true
  | d :: r => d.2.2.flatB && deFlat r
theorem deFlat_drop {l : List De} {i : Nat} (h : i < l.length) : deFlat (l.drop i) = (l[i].2.2.flatB && deFlat (l.drop (i + 1))) := by
  rw [List.drop_eq_getElem_cons h]; rfl

set_option maxRecDepth 100000 in
set_option maxHeartbeats 8000000 in
theorem Flat_any (ds : List Da) (fs : List De) (v : Value) (w : World) (hp : PrV w ds fs v) (hcost : deCost fs ≤ 1000000) (htall : ∀ i (h : i < fs.length), fs[i].2.2.tall ≤ 31) :
    Calls Tryz.prog 7 #[v] w (Grew (.bool (deFlat fs)) w) := by
  obtain ⟨v1, v2, rfl, h1, h2⟩ := hp
  obtain ⟨nd, ad, cd, -, rfl⟩ := sl_form h1
  obtain ⟨hnf, af, cf, rfl, -, hs2⟩ := h2
  have HVF := Lib.hid hs2
  obtain ⟨nf, hnf1⟩ : ∃ n, n = fs.length := ⟨_, rfl⟩
  have HNF := Lib.hid hnf1
  rw [← hnf1] at hnf HVF ⊢
  have hx2 : (nf : Int) ≤ 140737488355328 := by have : nf ≤ 140737488355328 := hnf; omega
  have HCO := Lib.hid hcost
  have HTL := Lib.hid htall
  obtain ⟨X, hX⟩ : ∃ X, X = deFlat fs := ⟨_, rfl⟩
  have HX : Hid (X = deFlat (fs.drop 0)) := Lib.hid (by rw [List.drop_zero]; exact hX)
  rw [← hX]
  have HS1 : Hid (Below w.heap.size w ((w.alloc (.cells #[.slice ad nd cd, .slice af nf cf] 25)).alloc (.cells #[.int .i64 20648881] 3))) := Lib.hid (((Below.refl _ w).alloc (Nat.le_refl _) _).alloc (by simp) _)
  have HS2 : Hid (w.heap.size + 2 ≤ ((w.alloc (.cells #[.slice ad nd cd, .slice af nf cf] 25)).alloc (.cells #[.int .i64 20648881] 3)).heap.size) := Lib.hid (by simp)
  have hrow : ((w.alloc (.cells #[.slice ad nd cd, .slice af nf cf] 25)).alloc (.cells #[.int .i64 20648881] 3)).heap[w.heap.size + 1]? = some (.cells #[.int .i64 20648881] 3) := by
    have := heap_alloc_new (w.alloc (.cells #[.slice ad nd cd, .slice af nf cf] 25)) (.cells #[.int .i64 20648881] 3)
    simpa using this
  have HS3 : Hid (((w.alloc (.cells #[.slice ad nd cd, .slice af nf cf] 25)).alloc (.cells #[.int .i64 20648881] 3)).cell? ⟨w.heap.size + 1, 0, none⟩ = some (.int .i64 20648881)) := Lib.hid (by rw [cell_of_row _ (w.heap.size + 1) 0 _ _ _ hrow]; rfl)
  have HS4 : Hid (((w.alloc (.cells #[.slice ad nd cd, .slice af nf cf] 25)).alloc (.cells #[.int .i64 20648881] 3)).frozen? ⟨w.heap.size + 1, 0, none⟩ = false) := Lib.hid (World.frozen?_alloc2_new _ _ _ _)
  clear hs2 hnf hnf1 hX hrow h1 hcost htall
  go_enter Tryz.func7, Tryz.ntmps7
  go_wp2_with fail
  go_loopw [9] (fun vi wr => ∃ (i : Nat) (q : Int), vi = .int .i64 (i : Int) ∧ i ≤ nf ∧ q ≤ 2147483647 ∧ Hid (Below w.heap.size w wr) ∧ Hid (w.heap.size + 2 ≤ wr.heap.size) ∧ Hid (wr.cell? ⟨w.heap.size + 1, 0, none⟩ = some (.int .i64 q)) ∧ Hid (wr.frozen? ⟨w.heap.size + 1, 0, none⟩ = false) ∧ Hid ((deCost (fs.drop i) : Int) ≤ q) ∧ Hid (X = deFlat (fs.drop i))) (fun vi _ => nf + 1 - (intOf vi).toNat)
  case atStart => exact ⟨0, 20648881, rfl, by omega, by omega, HS1, HS2, HS3, HS4, Lib.hid (by have := HCO.out; simp only [List.drop_zero]; omega), HX⟩
  case round =>
    clear HS1 HS2 HS3 HS4 HX
    obtain ⟨i, q, rfl, hin, hq, HB, HZ, HC1, HZ1, HQ, HXX⟩ := hrel
    by_cases hii : (i : Int) < (nf : Int)
    · have hi0 : (0 : Int) ≤ (i : Int) := by omega
      have hilt : i < fs.length := by have := HNF.out; omega
      obtain ⟨b, o, rfl, hbw, ht⟩ := HVF.out (by omega)
      obtain ⟨dn, dp, op, nm, num, names, L, alts, v1, u1, u2, u3, he, hdn, c0, c1, e2, e3, e4, e5, e6, e7, hs1, hnm, hwl, hwa2, hg1, hg2, hg3⟩ := de_at ht hilt
      have HE : Hid (∀ h : i < fs.length, fs[i] = (dn, dp, .expr op nm num names L alts .nil)) := Lib.hid fun _ => he
      obtain ⟨np, ap, cp, -, rfl⟩ := sl_form hs1
      obtain ⟨ln1, ga1, gc1, -, rfl⟩ := sl_form hg1
      obtain ⟨ln2, ga2, gc2, -, rfl⟩ := sl_form hg2
      obtain ⟨ln3, ga3, gc3, -, rfl⟩ := sl_form hg3
      have hbel : ∀ k, wr.cell? ⟨b, k, none⟩ = w.cell? ⟨b, k, none⟩ := fun k => HB.out.cell (p := ⟨b, k, none⟩) hbw
      have c0' := (hbel _).trans c0
      have c1' := (hbel _).trans c1
      have e2' := (hbel _).trans e2
      have e3' := (hbel _).trans e3
      have e4' := (hbel _).trans e4
      have e5' := (hbel _).trans e5
      have e6' := (hbel _).trans e6
      have e7' := (hbel _).trans e7
      have hszp : w.heap.size + 1 < wr.heap.size := by have := HZ.out; omega
      have hcp : (wr.alloc (.cells #[.string dn, .slice ap np cp, .int .i64 op, .string nm, .int .i64 num, .slice ga1 ln1 gc1, .slice ga2 ln2 gc2, .slice ga3 ln3 gc3] 35)).cell? ⟨w.heap.size + 1, 0, none⟩ = some (.int .i64 q) := (cell_alloc_old wr _ _ hszp).trans HC1.out
      have hfp : (wr.alloc (.cells #[.string dn, .slice ap np cp, .int .i64 op, .string nm, .int .i64 num, .slice ga1 ln1 gc1, .slice ga2 ln2 gc2, .slice ga3 ln3 gc3] 35)).frozen? ⟨w.heap.size + 1, 0, none⟩ = false := (frozen_alloc_old wr _ _ hszp).trans HZ1.out
      have htall := HTL.out i hilt
      have hcost := HQ.out
      rw [deCost_drop hilt, he] at hcost
      rw [he] at htall
      simp only [Ex.cost, Ex.tall] at hcost htall
      have HC := isFlat_any (1 + names.length + L.cost + alts.cost) op nm num names L alts (Nat.le_refl _) _ _ _ 65536 q (w.heap.size + 1) w (wr.alloc (.cells #[.string dn, .slice ap np cp, .int .i64 op, .string nm, .int .i64 num, .slice ga1 ln1 gc1, .slice ga2 ln2 gc2, .slice ga3 ln3 gc3] 35)) hnm hwl hwa2 hg1 hg2 hg3 (HB.out.trans ((Below.refl _ wr).alloc HB.out.size _)) (by omega) (by simp; omega) hcp hfp (by omega) (by omega) (by omega) (by omega)
      obtain ⟨c, hc⟩ : ∃ c, c = exFlat op L alts := ⟨_, rfl⟩
      rw [← hc] at HC
      have HF : Hid (X = (c && deFlat (fs.drop (i + 1)))) := Lib.hid (by rw [HXX.out, deFlat_drop hilt, he, hc]; simp [Ex.flatB, exFlat])
      have HC := Lib.hid HC
      have HCS : Hid ((deCost (fs.drop (i + 1)) : Int) + (1 + names.length + L.cost + alts.cost : Nat) ≤ q) := Lib.hid (by omega)
      clear hbel c0 c1 e2 e3 e4 e5 e6 e7 ht hilt he hs1 hg1 hg2 hg3 hnm hwl hwa2 hcp hfp htall hcost hc hdn
      go_wp2_with fail
      refine HC.out.mono ?_
      rintro e w2 ⟨q2, rfl, hg2, hc2, hz2, hq2, hq3⟩
      have HG2 : Hid (wr.grownBy w2 (some (w.heap.size + 1))) := Lib.hid (gb_trans (gb_alloc (gb_refl _ _) _) hg2)
      have HC2 := Lib.hid hc2
      have HZ2 := Lib.hid hz2
      have HQ3 := Lib.hid hq2
      have HB2 : Hid (Below w.heap.size w w2) := Lib.hid (below_gb HB.out HG2.out (by omega))
      clear hg2 hc2 hz2 hq2 HC
      cases c
      · have HT : Hid (X = false) := Lib.hid (by rw [HF.out]; simp)
        go_wp2_with fail
        go_ret
        exact ⟨by rw [HT.out]; rfl, HB2.out⟩
      · go_wp2_with fail
        go_roundw
        case rel =>
          refine ⟨i + 1, q2, by go_num, by omega, by omega, HB2, Lib.hid (by have := HG2.out.size; omega), HC2, HZ2, Lib.hid ?_, Lib.hid ?_⟩
          · have h1 := HCS.out; have h2 := HQ3.out (by first | rfl | trivial); omega
          · have := HF.out; simpa using this
        case measure => simp [intOf]; omega
    · have HT : Hid (X = true) := Lib.hid (by rw [HXX.out, List.drop_eq_nil_of_le (by have := HNF.out; omega)]; rfl)
      go_wp2_with fail
      go_ret
      exact ⟨by rw [HT.out]; rfl, HB.out⟩
end Go.Proofs.YtkfoohhnfaohfaaGreatDoor
