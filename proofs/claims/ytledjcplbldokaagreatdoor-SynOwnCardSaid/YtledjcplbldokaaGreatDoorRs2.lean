/- gristmillref.SameTypes of the same types. No conditions. -/
import Derived.Test.YtledjcplbldokaaGreatDoorRs1
import Derived.Deep.RegionHeld3
import Derived.Deep.DrawnRows
namespace Go.Proofs.YtledjcplbldokaaGreatDoor
open Go.ChangeShapes Go.WideShapes Go.ChangeAt Go.RowKit
attribute [local go_sem ↓] Go.wp_at_zero Go.wp_at_succ

set_option maxRecDepth 100000 in
set_option maxHeartbeats 8000000 in
theorem refTypes_of (m : Nat) (HE : ∀ e : Ty, e.cost ≤ m → ∀ (v v' : Value) (w : World), TyV w e v → TyV w e v' → Calls Tryz.prog 42 #[v, v'] w (Grew (.bool true) w)) :
    ∀ f : Ty, f.cost ≤ m → ∀ (v v' : Value) (w : World), (SlAt w v f.len fun b o => TyIn w f b o 0) → (SlAt w v' f.len fun b o => TyIn w f b o 0) → Calls Tryz.prog 23 #[v, v'] w (Grew (.bool true) w) := by
  intro f hcost v v' w h h'
  have HE := Lib.hid HE
  obtain ⟨hn, ao, cap, rfl, -, hs⟩ := h
  obtain ⟨hn', ao', cap', rfl, -, hs'⟩ := h'
  obtain ⟨n, hnn⟩ : ∃ n, n = f.len := ⟨_, rfl⟩
  have HN := Lib.hid hnn
  have HIN0 : Hid (0 < f.len → ∃ b o, ao = some ⟨b, o, none⟩ ∧ b < w.heap.size ∧ TyIn w f b o 0) := Lib.hid hs
  have HIN0p : Hid (0 < f.len → ∃ b o, ao' = some ⟨b, o, none⟩ ∧ b < w.heap.size ∧ TyIn w f b o 0) := Lib.hid hs'
  rw [← hnn] at hn ⊢
  have hx : (n : Int) ≤ 140737488355328 := by have : n ≤ 140737488355328 := hn; omega
  have HCO := Lib.hid hcost
  clear hs hs' hn hn' hnn hcost
  have hnn : ((n : Int) != (n : Int)) = false := by simp
  go_enter Tryz.func23, Tryz.ntmps23
  go_wp2_with fail
  go_loopw [5] (fun vi wr => ∃ (i : Nat) (r : Ty), vi = .int .i64 (i : Int) ∧ i + r.len = n ∧ Hid (Below w.heap.size w wr) ∧ Hid (r.cost ≤ m) ∧ Hid (0 < r.len → ∃ b o, ao = some ⟨b, o, none⟩ ∧ b < w.heap.size ∧ TyIn w r b o i) ∧ Hid (0 < r.len → ∃ b o, ao' = some ⟨b, o, none⟩ ∧ b < w.heap.size ∧ TyIn w r b o i)) (fun vi _ => n + 1 - (intOf vi).toNat)
  case atStart => exact ⟨0, f, rfl, by rw [Nat.zero_add]; exact HN.out.symm, Lib.hid (Below.refl _ _), HCO, HIN0, HIN0p⟩
  case round =>
    clear HCO HIN0 HIN0p
    obtain ⟨i, r, rfl, hir, HB, HCO, HIN, HINp⟩ := hrel
    cases r with
    | nil =>
      simp only [Ty.len, Nat.add_zero] at hir
      have hii : ¬ (i : Int) < (n : Int) := by omega
      go_wp2_with fail
      go_ret
      exact ⟨rfl, HB.out⟩
    | node nm args r =>
      simp only [Ty.len] at hir
      obtain ⟨b, o, rfl, hbw, ht⟩ := HIN.out (by simp only [Ty.len]; omega)
      obtain ⟨b', o', rfl, hbw', ht'⟩ := HINp.out (by simp only [Ty.len]; omega)
      obtain ⟨n1, a1, c1, e0, e1, hv, hr⟩ := ty_first ht
      obtain ⟨n1p, a1p, c1p, e0p, e1p, hvp, hrp⟩ := ty_first ht'
      have f0 := (HB.out.cell (p := ⟨b, _, none⟩) hbw).trans e0
      have f1 := (HB.out.cell (p := ⟨b, _, none⟩) hbw).trans e1
      have f0p := (HB.out.cell (p := ⟨b', _, none⟩) hbw').trans e0p
      have f1p := (HB.out.cell (p := ⟨b', _, none⟩) hbw').trans e1p
      have hii : (i : Int) < (n : Int) := by omega
      have hi0 : (0 : Int) ≤ (i : Int) := by omega
      have hszA : b < wr.heap.size := Nat.lt_of_lt_of_le hbw HB.out.size
      have hszB : b' < wr.heap.size := Nat.lt_of_lt_of_le hbw' HB.out.size
      have HC : Hid (∀ w', Below w.heap.size w w' → Calls Tryz.prog 42 #[.agg #[.string nm, .slice a1 n1 c1], .agg #[.string nm, .slice a1p n1p c1p]] w' (Grew (.bool true) w')) := Lib.hid fun w' hb => HE.out (.node nm args .nil) (by have := HCO.out; simp only [Ty.cost] at this ⊢; omega) _ _ w' (hv.below hb) (hvp.below hb)
      have HRR := Lib.hid hr
      have HRRp := Lib.hid hrp
      clear e0 e1 e0p e1p ht ht' hv hvp hr hrp
      go_wp2_with fail
      go_region_held3 (fun w' => w'.cell? ⟨b, o + i * 2, none⟩ = some (.string nm) ∧ w'.cell? ⟨b, o + i * 2 + 1, none⟩ = some (.slice a1 n1 c1) ∧ w'.cell? ⟨b', o' + i * 2, none⟩ = some (.string nm) ∧ w'.cell? ⟨b', o' + i * 2 + 1, none⟩ = some (.slice a1p n1p c1p)) (first | go_keep | (refine ⟨?_, ?_, ?_, ?_⟩ <;> (first | (rw [HB2.out.cell (p := ⟨b, _, none⟩) hszA]; assumption) | (rw [HB2.out.cell (p := ⟨b', _, none⟩) hszB]; assumption)))) (first | (go_at_call 42; refine (HC.out _ (Below.drew HB.out)).mono ?_; rintro e w2 ⟨rfl, hb2⟩; have HB2 : Hid (Below wr.heap.size wr w2) := Lib.hid ((Below.drew (Below.refl _ wr)).trans hb2); clear hb2))
      all_goals (
        go_wp2_with fail
        go_roundw
        case rel => exact ⟨i + 1, r, by go_num, by omega, Lib.hid (HB.out.trans (HB2.out.mono HB.out.size)), Lib.hid (by have := HCO.out; simp only [Ty.cost] at this; omega), Lib.hid fun _ => ⟨b, o, rfl, hbw, HRR.out⟩, Lib.hid fun _ => ⟨b', o', rfl, hbw', HRRp.out⟩⟩
        case measure => simp [intOf]; omega)
set_option maxRecDepth 100000 in
set_option maxHeartbeats 8000000 in
theorem refType_any (m : Nat) : ∀ e : Ty, e.cost ≤ m → ∀ (v v' : Value) (w : World), TyV w e v → TyV w e v' → Calls Tryz.prog 42 #[v, v'] w (Grew (.bool true) w) := by
  induction m with
  | zero =>
    intro e h v v' w hv
    obtain ⟨nm, args, n, a, c, rfl, -⟩ := hv
    simp only [Ty.cost] at h; omega
  | succ m IH =>
    intro e hcost v v' w hv hv'
    have HI := Lib.hid IH
    obtain ⟨nm, args, n1, a1, c1, rfl, rfl, hnm, hs⟩ := hv
    obtain ⟨nmp, argsp, n1p, a1p, c1p, he, rfl, hnmp, hsp⟩ := hv'
    obtain ⟨rfl, rfl, -⟩ : nm = nmp ∧ args = argsp ∧ True := by injection he with h1 h2; exact ⟨h1, h2, trivial⟩
    have HS := Lib.hid hs
    have HSp := Lib.hid hsp
    have HCO := Lib.hid hcost
    have hq : (nm.toList == nm.toList) = true := by simp
    clear IH hs hsp hcost he
    have HB0 : Hid (Below w.heap.size w ((w.alloc (.cells #[.string nm, .slice a1 n1 c1] 50)).alloc (.cells #[.string nm, .slice a1p n1p c1p] 50))) := Lib.hid (((Below.refl _ w).alloc (Nat.le_refl _) _).alloc (by simp) _)
    have hA := box2a w #[.string nm, .slice a1 n1 c1] #[.string nm, .slice a1p n1p c1p] 50 50
    have hB := box2b w #[.string nm, .slice a1 n1 c1] #[.string nm, .slice a1p n1p c1p] 50 50
    have A0 := hA 0 (.string nm) rfl
    have A1 := hA 1 (.slice a1 n1 c1) rfl
    have B0 := hB 0 (.string nm) rfl
    have B1 := hB 1 (.slice a1p n1p c1p) rfl
    clear hA hB
    have HC := Lib.hid (refTypes_of m HI.out args (by have := HCO.out; simp only [Ty.cost] at this; omega) _ _ _ (HS.out.mono HB0.out.size fun _ _ p q => TyIn.below HB0.out p q) (HSp.out.mono HB0.out.size fun _ _ p q => TyIn.below HB0.out p q))
    go_enter Tryz.func42, Tryz.ntmps42
    go_wp2_with fail
    refine HC.out.mono ?_
    rintro e w2 ⟨rfl, hb2⟩
    go_wp2_with fail
    go_ret
    exact ⟨rfl, HB0.out.trans (hb2.mono HB0.out.size)⟩
end Go.Proofs.YtledjcplbldokaaGreatDoor
