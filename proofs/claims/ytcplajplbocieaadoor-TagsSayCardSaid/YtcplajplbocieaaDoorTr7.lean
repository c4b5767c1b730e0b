/- TagsSay: the law's walk. Conditions: how they lie in memory; 64 bits; the listed table. -/
import Derived.Test.YtcplajplbocieaaDoorTr2
import Derived.Test.YtcplajplbocieaaDoorTr3
import Derived.Test.YtcplajplbocieaaDoorTr4
import Derived.Test.YtcplajplbocieaaDoorTr6
import Derived.Test.YtcplajplbocieaaDoorTu2
import Derived.Test.YtcplajplbocieaaDoorTgA
import Derived.Test.YtcplajplbocieaaDoorTgO
import Derived.Deep.RegionHeld3
namespace Go.Proofs.YtcplajplbocieaaDoor
open Go.RowKit Go.Sort Go.Lib

set_option maxRecDepth 100000 in
set_option maxHeartbeats 0 in
theorem say_core (ak an bk bn : Int) (sa sb : ByteArray) (l : List Tg) (ao : Option Addr) (cap : Nat) (hl : l.length ≤ 30) (hsa : sa.size ≤ 60) (hsb : sb.size ≤ 60) (hoa : okT ⟨ak, sa, an⟩) (hc : ao = none → cap = 0) (w : World) (h : TgAt w ao l) (ht : Tabs w) :
    Calls Tryd.prog 3 #[.agg #[.int .i64 ak, .string sa, .int .i64 an], .agg #[.int .i64 bk, .string sb, .int .i64 bn], .slice ao l.length cap] w (Grew (.bool true) w) := by
  have HX := Lib.hid (And.intro h (And.intro ht (And.intro hoa (And.intro hl hc))))
  have hlz : ¬ (30 : Int) < (l.length : Int) := by omega
  have haz : ¬ (60 : Int) < (sa.size : Int) := by omega
  have hbz : ¬ (60 : Int) < (sb.size : Int) := by omega
  have hsa1 := Lib.hid (show sa.size ≤ 1000000000000000000 by omega)
  clear h ht hoa hc hl hsa hsb
  go_enter Tryd.func3, Tryd.ntmps3
  go_wp2_with fail
  obtain ⟨W2, hW2⟩ : ∃ W2, W2 = ((w.alloc (.cells #[.int .i64 ak, .string sa, .int .i64 an] 23)).alloc (.cells #[.int .i64 bk, .string sb, .int .i64 bn] 23)) := ⟨_, rfl⟩
  have HB0 : Hid (Below w.heap.size w W2) := Lib.hid (by rw [hW2]; exact ((Below.refl _ w).alloc (Nat.le_refl _) _).alloc (by simp) _)
  have HV : Hid (∀ w', Below W2.heap.size W2 w' → BoxT w' w.heap.size ⟨ak, sa, an⟩ ∧ BoxT w' (w.heap.size + 1) ⟨bk, sb, bn⟩) := Lib.hid fun w' hb => by
    have hs : W2.heap.size = w.heap.size + 2 := by rw [hW2]; simp
    refine ⟨BoxT.below (BoxT.of W2 _ _ (t := 23) (fr := (0, 0)) ?_) (by omega) hb, BoxT.below (BoxT.of W2 _ _ (t := 23) (fr := (0, 0)) ?_) (by omega) hb⟩
    · rw [hW2, Below.heap_alloc _ _ _ (by simp)]; exact heap_alloc_new w _
    · rw [hW2]
      show _ = some (Obj.cells #[.int .i64 bk, .string sb, .int .i64 bn] 23 (0, 0))
      have := heap_alloc_new (w.alloc (.cells #[.int .i64 ak, .string sa, .int .i64 an] 23)) (.cells #[.int .i64 bk, .string sb, .int .i64 bn] 23)
      simpa using this
  rw [← hW2]
  clear hW2
  have HB : Hid (∀ w', Below W2.heap.size W2 w' → Below w.heap.size w w') := Lib.hid fun w' hb => HB0.out.trans (hb.mono HB0.out.size)
  refine (first_any W2 (var_below HB0.out (g := 1) (by kernel_rfl) HX.out.2.1)).mono ?_
  rintro e w1 ⟨rfl, hb1⟩
  have HB1 := Lib.hid hb1
  clear hb1
  obtain ⟨⟨a0, a1, a2⟩, ⟨b0, b1, b2⟩⟩ := HV.out w1 HB1.out
  simp only at a0 a1 a2 b0 b1 b2
  go_wp2_with fail
  clear a0 a1 a2 b0 b1 b2
  go_loopg [8] l.length (fun gg vi wr => ∃ i : Nat, i ≤ l.length ∧ l.length - i ≤ gg ∧ vi = .int .i64 i ∧ Hid (Below W2.heap.size W2 wr))
  case atStart => exact ⟨0, Nat.zero_le _, by omega, rfl, HB1⟩
  case round =>
    obtain ⟨i, hi, hgm, rfl, HR⟩ := hrel
    by_cases hlt : i < l.length
    · have hltz : (i : Int) < (l.length : Int) := by omega
      rcases HX.out.1 with hnil | ⟨g, o, rfl, hgl, hcell⟩
      · rw [hnil] at hlt; exact absurd hlt (Nat.not_lt_zero _)
      have e1 : wr.cell? ⟨g, o + i * 3 + 1, none⟩ = some (.string l[i]!.s) := by
        rw [(HB.out wr HR.out).cell (p := ⟨g, _, none⟩) hgl]
        exact hcell i hlt 1 _ rfl
      clear hcell
      generalize l[i]!.s = nm at *
      by_cases hnm : (60 : Int) < (nm.size : Int)
      · go_wp2_with fail
        apply bodyPost_ret
        case hr => exact results_tmp rfl _ _ _
        case hd => rfl
        case hR => exact ⟨rfl, HB.out wr HR.out⟩
      · go_wp2_with fail
        clear e1
        go_roundg (l.length - (i + 1))
        case measure => omega
        case rel => exact ⟨i + 1, by omega, Nat.le_refl _, by go_num, HR⟩
    · have hltz : ¬ (i : Int) < (l.length : Int) := by omega
      clear hlt hi hgm hlz haz hbz
      obtain ⟨va, hva⟩ : ∃ va, validT ⟨ak, sa, an⟩ = va := ⟨_, rfl⟩
      obtain ⟨lt, hlt⟩ : ∃ lt, ltT ⟨ak, sa, an⟩ ⟨bk, sb, bn⟩ = lt := ⟨_, rfl⟩
      obtain ⟨hs, hhs⟩ : ∃ hs, decide ((⟨ak, sa, an⟩ : Tg) ∈ l) = hs := ⟨_, rfl⟩
      obtain ⟨wa, hwa⟩ : ∃ wa, (ak == 2 || ak == 4) = wa := ⟨_, rfl⟩
      obtain ⟨ba, hba⟩ : ∃ ba, (ak == 5 || ak == 6) = ba := ⟨_, rfl⟩
      obtain ⟨ta, hta⟩ : ∃ ta, textT ⟨ak, sa, an⟩ = ta := ⟨_, rfl⟩
      have K1 : Hid (∀ w', Below W2.heap.size W2 w' → Calls Tryd.prog 8 #[.agg #[.int .i64 ak, .string sa, .int .i64 an]] w' (Grew (.bool va) w')) := Lib.hid fun w' _ => by have := validTag_any ⟨ak, sa, an⟩ w'; rw [hva] at this; exact this
      have K2 : Hid (∀ w', Below W2.heap.size W2 w' → Calls Tryd.prog 9 #[.agg #[.int .i64 ak, .string sa, .int .i64 an]] w' (Grew (.bool va) w')) := Lib.hid fun w' _ => by have := valid_any ⟨ak, sa, an⟩ hsa1.out w'; rw [hva] at this; exact this
      have K3 : Hid (∀ w', Below W2.heap.size W2 w' → Calls Tryd.prog 10 #[.agg #[.int .i64 ak, .string sa, .int .i64 an], .agg #[.int .i64 bk, .string sb, .int .i64 bn]] w' (Grew (.bool lt) w')) := Lib.hid fun w' _ => by have := less_any ⟨ak, sa, an⟩ ⟨bk, sb, bn⟩ w'; rw [hlt] at this; exact this
      have K4 : Hid (∀ w', Below W2.heap.size W2 w' → Calls Tryd.prog 11 #[.agg #[.int .i64 ak, .string sa, .int .i64 an], .agg #[.int .i64 bk, .string sb, .int .i64 bn]] w' (Grew (.bool lt) w')) := Lib.hid fun w' _ => by have := lessTag_any ⟨ak, sa, an⟩ ⟨bk, sb, bn⟩ w'; rw [hlt] at this; exact this
      have K5 : Hid (∀ w', Below W2.heap.size W2 w' → Calls Tryd.prog 13 #[.slice ao l.length cap] w' (SetP w' (setT l))) := Lib.hid fun w' hb => set_any ao cap l (by have := HX.out.2.2.2.1; omega) HX.out.2.2.2.2 w' (HX.out.1.below (HB.out w' hb))
      have K6 : Hid (∀ w', Below W2.heap.size W2 w' → Calls Tryd.prog 14 #[.slice ao l.length cap] w' (PutP w' (setT l))) := Lib.hid fun w' hb => setTags_any ao cap l HX.out.2.2.2.1 w' (HX.out.1.below (HB.out w' hb))
      have K7 : Hid (∀ a b c d w', TgAt w' a (setT l) → TgAt w' b (setT l) → Calls Tryd.prog 12 #[.slice a (setT l).length c, .slice b (setT l).length d] w' (Grew (.bool true) w')) := Lib.hid fun a b c d w' h1 h2 => sameTags_any (setT l) (by have := len_setT l; have := HX.out.2.2.2.1; omega) a b c d w' h1 h2
      have K8 : Hid (∀ w', Below W2.heap.size W2 w' → Calls Tryd.prog 15 #[.slice ao l.length cap, .agg #[.int .i64 ak, .string sa, .int .i64 an]] w' (Grew (.bool hs) w')) := Lib.hid fun w' hb => by have := has_any ao cap l (by have := HX.out.2.2.2.1; omega) ⟨ak, sa, an⟩ w' (HX.out.1.below (HB.out w' hb)); rw [any_has, hhs] at this; exact this
      have K9 : Hid (∀ w', Below W2.heap.size W2 w' → Calls Tryd.prog 16 #[.slice ao l.length cap, .agg #[.int .i64 ak, .string sa, .int .i64 an]] w' (Grew (.bool hs) w')) := Lib.hid fun w' hb => by have := hasTag_any ao cap l (by have := HX.out.2.2.2.1; omega) ⟨ak, sa, an⟩ w' (HX.out.1.below (HB.out w' hb)); rw [hhs] at this; exact this
      have K10 : Hid (∀ w', Below W2.heap.size W2 w' → Calls Tryd.prog 17 #[.agg #[.int .i64 ak, .string sa, .int .i64 an]] w' (Grew (.bool wa) w')) := Lib.hid fun w' _ => by have := waits_any ⟨ak, sa, an⟩ w'; simp only at this; rw [hwa] at this; exact this
      have K11 : Hid (∀ w', Below W2.heap.size W2 w' → Calls Tryd.prog 18 #[.agg #[.int .i64 ak, .string sa, .int .i64 an]] w' (Grew (.bool wa) w')) := Lib.hid fun w' _ => by have := refWaits_any ⟨ak, sa, an⟩ w'; simp only at this; rw [hwa] at this; exact this
      have K12 : Hid (∀ w', Below W2.heap.size W2 w' → Calls Tryd.prog 19 #[.agg #[.int .i64 ak, .string sa, .int .i64 an]] w' (Grew (.bool ba) w')) := Lib.hid fun w' _ => by have := bare_any ⟨ak, sa, an⟩ w'; simp only at this; rw [hba] at this; exact this
      have K13 : Hid (∀ w', Below W2.heap.size W2 w' → Calls Tryd.prog 20 #[.agg #[.int .i64 ak, .string sa, .int .i64 an]] w' (Grew (.bool ba) w')) := Lib.hid fun w' _ => by have := refBare_any ⟨ak, sa, an⟩ w'; simp only at this; rw [hba] at this; exact this
      have K14 : Hid (va = true → ∀ w', Below W2.heap.size W2 w' → Calls Tryd.prog 21 #[.agg #[.int .i64 ak, .string sa, .int .i64 an]] w' (Grew (.string ta) w')) := Lib.hid fun hv w' hb => by have := text_any ⟨ak, sa, an⟩ hsa1.out HX.out.2.2.1.1 HX.out.2.2.1.2.1 (valid_kind _ (hva.trans hv)) w' (var_below (HB.out w' hb) (g := 1) (by kernel_rfl) HX.out.2.1); rw [hta] at this; exact this
      have K15 : Hid (va = true → ∀ w', Below W2.heap.size W2 w' → Calls Tryd.prog 22 #[.agg #[.int .i64 ak, .string sa, .int .i64 an]] w' (Grew (.string ta) w')) := Lib.hid fun hv w' hb => by have := tagText_any ⟨ak, sa, an⟩ hsa1.out HX.out.2.2.1.1 HX.out.2.2.1.2.1 (valid_kind _ (hva.trans hv)) w' (var_below (HB.out w' hb) (g := 1) (by kernel_rfl) HX.out.2.1); rw [hta] at this; exact this
      clear hva hlt hhs hwa hba hta
      have hself : (ta.toList == ta.toList) = true := beq_self_eq_true _
      generalize setT l = S at *
      obtain ⟨⟨a0, a1, a2⟩, ⟨b0, b1, b2⟩⟩ := HV.out wr HR.out
      simp only at a0 a1 a2 b0 b1 b2
      go_upto_region 12 with (go_at_call 8; refine (K1.out _ HR.out).mono ?_; rintro e wt ⟨rfl, hbt⟩; have HRT := Lib.hid (HR.out.trans (hbt.mono HR.out.size)); clear hbt a0 a1 a2 b0 b1 b2)
      have HBU := Lib.hid HRT.out
      obtain ⟨⟨a0, a1, a2⟩, ⟨b0, b1, b2⟩⟩ := HV.out wt HRT.out
      simp only at a0 a1 a2 b0 b1 b2
      clear HRT HR
      have HW : Hid (∀ w', Below W2.heap.size W2 w' → w'.cell? ⟨w.heap.size, 0, none⟩ = some (.int .i64 ak) ∧ w'.cell? ⟨w.heap.size, 1, none⟩ = some (.string sa) ∧ w'.cell? ⟨w.heap.size, 2, none⟩ = some (.int .i64 an) ∧ w'.cell? ⟨w.heap.size + 1, 0, none⟩ = some (.int .i64 bk) ∧ w'.cell? ⟨w.heap.size + 1, 1, none⟩ = some (.string sb) ∧ w'.cell? ⟨w.heap.size + 1, 2, none⟩ = some (.int .i64 bn)) := Lib.hid fun w' hb => ⟨(HV.out w' hb).1.1, (HV.out w' hb).1.2.1, (HV.out w' hb).1.2.2, (HV.out w' hb).2.1, (HV.out w' hb).2.2.1, (HV.out w' hb).2.2.2⟩
      cases va
      case true =>
        clear K1
        refine wp_region_noPanic ?_
        refine wp_region_held_drew (S := (fun w' => w'.cell? ⟨w.heap.size, 0, none⟩ = some (.int .i64 ak) ∧ w'.cell? ⟨w.heap.size, 1, none⟩ = some (.string sa) ∧ w'.cell? ⟨w.heap.size, 2, none⟩ = some (.int .i64 an) ∧ w'.cell? ⟨w.heap.size + 1, 0, none⟩ = some (.int .i64 bk) ∧ w'.cell? ⟨w.heap.size + 1, 1, none⟩ = some (.string sb) ∧ w'.cell? ⟨w.heap.size + 1, 2, none⟩ = some (.int .i64 bn))) (by kernel_rfl) (HW.out _ (Below.drew HBU.out)) (fun hHeld => ?_)
        refine wpAnyH_take (i := 0) (oi := ⟨some 45, _, _, _, _, _⟩) (v := ?_) rfl (by kernel_rfl) (by kernel_rfl) (by kernel_rfl) (fun _ _ _ h => h) (Or.inl ⟨by rfl, ?_⟩) (by assumption) ?_
        rotate_left
        · intro w hSw; (try dsimp only at hSw); go_simp; (try with_reducible rfl)
        try simp only [Act.put, List.setIfInBounds_toArray, List.set_cons_zero, List.set_cons_succ]
        refine wpAnyH_take (i := 1) (oi := ⟨some 46, _, _, _, _, _⟩) (v := ?_) rfl (by kernel_rfl) (by kernel_rfl) (by kernel_rfl) (fun _ _ _ h => h) (Or.inl ⟨by rfl, ?_⟩) (by assumption) ?_
        rotate_left
        · intro w hSw; (try dsimp only at hSw); go_simp; (try with_reducible rfl)
        try simp only [Act.put, List.setIfInBounds_toArray, List.set_cons_zero, List.set_cons_succ]
        refine wpAnyH_take (i := 2) (oi := ⟨some 47, _, _, _, _, _⟩) (v := ?_) rfl (by kernel_rfl) (by kernel_rfl) (by kernel_rfl) (fun _ _ _ h => h) (Or.inl ⟨by rfl, ?_⟩) (by assumption) ?_
        rotate_left
        · intro w hSw; (try dsimp only at hSw); go_simp; (try with_reducible rfl)
        try simp only [Act.put, List.setIfInBounds_toArray, List.set_cons_zero, List.set_cons_succ]
        refine wpAnyH_take (i := 4) (oi := ⟨some 49, _, _, _, _, _⟩) (v := ?_) rfl (by kernel_rfl) (by kernel_rfl) (by kernel_rfl) (fun _ _ _ h => h) (Or.inl ⟨by rfl, ?_⟩) (by assumption) ?_
        rotate_left
        · intro w hSw; (try dsimp only at hSw); go_simp; (try with_reducible rfl)
        try simp only [Act.put, List.setIfInBounds_toArray, List.set_cons_zero, List.set_cons_succ]
        refine wpAnyH_ready (rs := [3]) (by kernel_rfl) (by simp) ?_
        refine AllReadyH.cons (o := ⟨some 48, _, _, _, _, _⟩) rfl (fun K hK => ?_) AllReadyH.nil
        go_simp
        (go_at_call 9; refine (K2.out _ (by first | exact HBU.out | exact Below.drew HBU.out)).mono ?_; rintro e u ⟨rfl, hbu⟩; have HBN := Lib.hid ((show Below W2.heap.size W2 _ from by first | exact HBU.out | exact Below.drew HBU.out).trans (hbu.mono HBU.out.size)); clear HBU hbu; have HBU := HBN; clear HBN)
        (try go_wp2_with fail)
        refine hK.out _ _ (HW.out _ (by first | exact HBU.out | exact Below.drew HBU.out)) (fun hHeld => ?_)
        clear hK K
        try simp only [Act.put, List.setIfInBounds_toArray, List.set_cons_zero, List.set_cons_succ]
        refine wpAnyH_take (i := 5) (oi := ⟨some 50, _, _, _, _, _⟩) (v := ?_) rfl (by kernel_rfl) (by kernel_rfl) (by kernel_rfl) (fun _ _ _ h => h) (Or.inl ⟨by rfl, ?_⟩) (by assumption) ?_
        rotate_left
        · intro w hSw; (try dsimp only at hSw); go_simp; (try with_reducible rfl)
        try simp only [Act.put, List.setIfInBounds_toArray, List.set_cons_zero, List.set_cons_succ]
        refine wpAnyH_take (i := 6) (oi := ⟨some 51, _, _, _, _, _⟩) (v := ?_) rfl (by kernel_rfl) (by kernel_rfl) (by kernel_rfl) (fun _ _ _ h => h) (Or.inl ⟨by rfl, ?_⟩) (by assumption) ?_
        rotate_left
        · intro w hSw; (try dsimp only at hSw); go_simp; (try with_reducible rfl)
        try simp only [Act.put, List.setIfInBounds_toArray, List.set_cons_zero, List.set_cons_succ]
        refine wpAnyH_take (i := 7) (oi := ⟨some 52, _, _, _, _, _⟩) (v := ?_) rfl (by kernel_rfl) (by kernel_rfl) (by kernel_rfl) (fun _ _ _ h => h) (Or.inl ⟨by rfl, ?_⟩) (by assumption) ?_
        rotate_left
        · intro w hSw; (try dsimp only at hSw); go_simp; (try with_reducible rfl)
        try simp only [Act.put, List.setIfInBounds_toArray, List.set_cons_zero, List.set_cons_succ]
        refine wpAnyH_take (i := 8) (oi := ⟨some 53, _, _, _, _, _⟩) (v := ?_) rfl (by kernel_rfl) (by kernel_rfl) (by kernel_rfl) (fun _ _ _ h => h) (Or.inl ⟨by rfl, ?_⟩) (by assumption) ?_
        rotate_left
        · intro w hSw; (try dsimp only at hSw); go_simp; (try with_reducible rfl)
        try simp only [Act.put, List.setIfInBounds_toArray, List.set_cons_zero, List.set_cons_succ]
        refine wpAnyH_take (i := 9) (oi := ⟨some 54, _, _, _, _, _⟩) (v := ?_) rfl (by kernel_rfl) (by kernel_rfl) (by kernel_rfl) (fun _ _ _ h => h) (Or.inl ⟨by rfl, ?_⟩) (by assumption) ?_
        rotate_left
        · intro w hSw; (try dsimp only at hSw); go_simp; (try with_reducible rfl)
        try simp only [Act.put, List.setIfInBounds_toArray, List.set_cons_zero, List.set_cons_succ]
        refine wpAnyH_take (i := 11) (oi := ⟨some 56, _, _, _, _, _⟩) (v := ?_) rfl (by kernel_rfl) (by kernel_rfl) (by kernel_rfl) (fun _ _ _ h => h) (Or.inl ⟨by rfl, ?_⟩) (by assumption) ?_
        rotate_left
        · intro w hSw; (try dsimp only at hSw); go_simp; (try with_reducible rfl)
        try simp only [Act.put, List.setIfInBounds_toArray, List.set_cons_zero, List.set_cons_succ]
        refine wpAnyH_take (i := 12) (oi := ⟨some 57, _, _, _, _, _⟩) (v := ?_) rfl (by kernel_rfl) (by kernel_rfl) (by kernel_rfl) (fun _ _ _ h => h) (Or.inl ⟨by rfl, ?_⟩) (by assumption) ?_
        rotate_left
        · intro w hSw; (try dsimp only at hSw); go_simp; (try with_reducible rfl)
        try simp only [Act.put, List.setIfInBounds_toArray, List.set_cons_zero, List.set_cons_succ]
        refine wpAnyH_ready (rs := [10]) (by kernel_rfl) (by simp) ?_
        refine AllReadyH.cons (o := ⟨some 55, _, _, _, _, _⟩) rfl (fun K hK => ?_) AllReadyH.nil
        go_simp
        (go_at_call 10; refine (K3.out _ (by first | exact HBU.out | exact Below.drew HBU.out)).mono ?_; rintro e u ⟨rfl, hbu⟩; have HBN := Lib.hid ((show Below W2.heap.size W2 _ from by first | exact HBU.out | exact Below.drew HBU.out).trans (hbu.mono HBU.out.size)); clear HBU hbu; have HBU := HBN; clear HBN)
        (try go_wp2_with fail)
        refine hK.out _ _ (HW.out _ (by first | exact HBU.out | exact Below.drew HBU.out)) (fun hHeld => ?_)
        clear hK K
        try simp only [Act.put, List.setIfInBounds_toArray, List.set_cons_zero, List.set_cons_succ]
        refine wpAnyH_ready (rs := [13]) (by kernel_rfl) (by simp) ?_
        refine AllReadyH.cons (o := ⟨some 58, _, _, _, _, _⟩) rfl (fun K hK => ?_) AllReadyH.nil
        go_simp
        (go_at_call 11; refine (K4.out _ (by first | exact HBU.out | exact Below.drew HBU.out)).mono ?_; rintro e u ⟨rfl, hbu⟩; have HBN := Lib.hid ((show Below W2.heap.size W2 _ from by first | exact HBU.out | exact Below.drew HBU.out).trans (hbu.mono HBU.out.size)); clear HBU hbu; have HBU := HBN; clear HBN)
        (try go_wp2_with fail)
        refine hK.out _ _ (HW.out _ (by first | exact HBU.out | exact Below.drew HBU.out)) (fun hHeld => ?_)
        clear hK K
        try simp only [Act.put, List.setIfInBounds_toArray, List.set_cons_zero, List.set_cons_succ]
        refine wpAnyH_take (i := 14) (oi := ⟨some 59, _, _, _, _, _⟩) (v := ?_) rfl (by kernel_rfl) (by kernel_rfl) (by kernel_rfl) (fun _ _ _ h => h) (Or.inl ⟨by rfl, ?_⟩) (by assumption) ?_
        rotate_left
        · intro w hSw; (try dsimp only at hSw); go_simp; (try with_reducible rfl)
        try simp only [Act.put, List.setIfInBounds_toArray, List.set_cons_zero, List.set_cons_succ]
        refine wpAnyH_take (i := 15) (oi := ⟨some 60, _, _, _, _, _⟩) (v := ?_) rfl (by kernel_rfl) (by kernel_rfl) (by kernel_rfl) (fun _ _ _ h => h) (Or.inl ⟨by rfl, ?_⟩) (by assumption) ?_
        rotate_left
        · intro w hSw; (try dsimp only at hSw); go_simp; (try with_reducible rfl)
        try simp only [Act.put, List.setIfInBounds_toArray, List.set_cons_zero, List.set_cons_succ]
        refine wpAnyH_take (i := 16) (oi := ⟨some 61, _, _, _, _, _⟩) (v := ?_) rfl (by kernel_rfl) (by kernel_rfl) (by kernel_rfl) (fun _ _ _ h => h) (Or.inl ⟨by rfl, ?_⟩) (by assumption) ?_
        rotate_left
        · intro w hSw; (try dsimp only at hSw); go_simp; (try with_reducible rfl)
        try simp only [Act.put, List.setIfInBounds_toArray, List.set_cons_zero, List.set_cons_succ]
        refine wpAnyH_take (i := 17) (oi := ⟨some 62, _, _, _, _, _⟩) (v := ?_) rfl (by kernel_rfl) (by kernel_rfl) (by kernel_rfl) (fun _ _ _ h => h) (Or.inl ⟨by rfl, ?_⟩) (by assumption) ?_
        rotate_left
        · intro w hSw; (try dsimp only at hSw); go_simp; (try with_reducible rfl)
        try simp only [Act.put, List.setIfInBounds_toArray, List.set_cons_zero, List.set_cons_succ]
        refine wpAnyH_take (i := 19) (oi := ⟨some 64, _, _, _, _, _⟩) (v := ?_) rfl (by kernel_rfl) (by kernel_rfl) (by kernel_rfl) (fun _ _ _ h => h) (Or.inl ⟨by rfl, ?_⟩) (by assumption) ?_
        rotate_left
        · intro w hSw; (try dsimp only at hSw); go_simp; (try with_reducible rfl)
        try simp only [Act.put, List.setIfInBounds_toArray, List.set_cons_zero, List.set_cons_succ]
        refine wpAnyH_ready (rs := [18]) (by kernel_rfl) (by simp) ?_
        refine AllReadyH.cons (o := ⟨some 63, _, _, _, _, _⟩) rfl (fun K hK => ?_) AllReadyH.nil
        go_simp
        (go_at_call 13; refine (K5.out _ HBU.out).mono ?_; rintro e u ⟨s1, d1, rfl, ht1, _, hbu⟩; have HT1 := Lib.hid ht1; have HBN := Lib.hid (HBU.out.trans (hbu.mono HBU.out.size)); clear HBU hbu ht1; have HBU := HBN; clear HBN)
        (try go_wp2_with fail)
        refine hK.out _ _ (HW.out _ (by first | exact HBU.out | exact Below.drew HBU.out)) (fun hHeld => ?_)
        clear hK K
        try simp only [Act.put, List.setIfInBounds_toArray, List.set_cons_zero, List.set_cons_succ]
        refine wpAnyH_ready (rs := [20]) (by kernel_rfl) (by simp) ?_
        refine AllReadyH.cons (o := ⟨some 65, _, _, _, _, _⟩) rfl (fun K hK => ?_) AllReadyH.nil
        go_simp
        (go_at_call 14; refine (K6.out _ HBU.out).mono ?_; rintro e u ⟨s2, d2, rfl, ht2, _, _, _, hbu⟩; have HT2 := Lib.hid (And.intro (HT1.out.below hbu) ht2); have HBN := Lib.hid (HBU.out.trans (hbu.mono HBU.out.size)); clear HBU hbu ht2 HT1; have HBU := HBN; clear HBN)
        (try go_wp2_with fail)
        refine hK.out _ _ (HW.out _ (by first | exact HBU.out | exact Below.drew HBU.out)) (fun hHeld => ?_)
        clear hK K
        try simp only [Act.put, List.setIfInBounds_toArray, List.set_cons_zero, List.set_cons_succ]
        refine wpAnyH_ready (rs := [21]) (by kernel_rfl) (by simp) ?_
        refine AllReadyH.cons (o := ⟨some 66, _, _, _, _, _⟩) rfl (fun K hK => ?_) AllReadyH.nil
        go_simp
        (go_at_call 12; refine (K7.out _ _ _ _ _ HT2.out.1 HT2.out.2).mono ?_; rintro e u ⟨rfl, hbu⟩; have HBN := Lib.hid (HBU.out.trans (hbu.mono HBU.out.size)); clear HBU hbu HT2; have HBU := HBN; clear HBN)
        (try go_wp2_with fail)
        refine hK.out _ _ (HW.out _ (by first | exact HBU.out | exact Below.drew HBU.out)) (fun hHeld => ?_)
        clear hK K
        try simp only [Act.put, List.setIfInBounds_toArray, List.set_cons_zero, List.set_cons_succ]
        refine wpAnyH_take (i := 22) (oi := ⟨some 67, _, _, _, _, _⟩) (v := ?_) rfl (by kernel_rfl) (by kernel_rfl) (by kernel_rfl) (fun _ _ _ h => h) (Or.inl ⟨by rfl, ?_⟩) (by assumption) ?_
        rotate_left
        · intro w hSw; (try dsimp only at hSw); go_simp; (try with_reducible rfl)
        try simp only [Act.put, List.setIfInBounds_toArray, List.set_cons_zero, List.set_cons_succ]
        refine wpAnyH_take (i := 23) (oi := ⟨some 68, _, _, _, _, _⟩) (v := ?_) rfl (by kernel_rfl) (by kernel_rfl) (by kernel_rfl) (fun _ _ _ h => h) (Or.inl ⟨by rfl, ?_⟩) (by assumption) ?_
        rotate_left
        · intro w hSw; (try dsimp only at hSw); go_simp; (try with_reducible rfl)
        try simp only [Act.put, List.setIfInBounds_toArray, List.set_cons_zero, List.set_cons_succ]
        refine wpAnyH_take (i := 24) (oi := ⟨some 69, _, _, _, _, _⟩) (v := ?_) rfl (by kernel_rfl) (by kernel_rfl) (by kernel_rfl) (fun _ _ _ h => h) (Or.inl ⟨by rfl, ?_⟩) (by assumption) ?_
        rotate_left
        · intro w hSw; (try dsimp only at hSw); go_simp; (try with_reducible rfl)
        try simp only [Act.put, List.setIfInBounds_toArray, List.set_cons_zero, List.set_cons_succ]
        refine wpAnyH_take (i := 25) (oi := ⟨some 70, _, _, _, _, _⟩) (v := ?_) rfl (by kernel_rfl) (by kernel_rfl) (by kernel_rfl) (fun _ _ _ h => h) (Or.inl ⟨by rfl, ?_⟩) (by assumption) ?_
        rotate_left
        · intro w hSw; (try dsimp only at hSw); go_simp; (try with_reducible rfl)
        try simp only [Act.put, List.setIfInBounds_toArray, List.set_cons_zero, List.set_cons_succ]
        refine wpAnyH_take (i := 27) (oi := ⟨some 72, _, _, _, _, _⟩) (v := ?_) rfl (by kernel_rfl) (by kernel_rfl) (by kernel_rfl) (fun _ _ _ h => h) (Or.inl ⟨by rfl, ?_⟩) (by assumption) ?_
        rotate_left
        · intro w hSw; (try dsimp only at hSw); go_simp; (try with_reducible rfl)
        try simp only [Act.put, List.setIfInBounds_toArray, List.set_cons_zero, List.set_cons_succ]
        refine wpAnyH_take (i := 28) (oi := ⟨some 73, _, _, _, _, _⟩) (v := ?_) rfl (by kernel_rfl) (by kernel_rfl) (by kernel_rfl) (fun _ _ _ h => h) (Or.inl ⟨by rfl, ?_⟩) (by assumption) ?_
        rotate_left
        · intro w hSw; (try dsimp only at hSw); go_simp; (try with_reducible rfl)
        try simp only [Act.put, List.setIfInBounds_toArray, List.set_cons_zero, List.set_cons_succ]
        refine wpAnyH_ready (rs := [26]) (by kernel_rfl) (by simp) ?_
        refine AllReadyH.cons (o := ⟨some 71, _, _, _, _, _⟩) rfl (fun K hK => ?_) AllReadyH.nil
        go_simp
        (go_at_call 15; refine (K8.out _ (by first | exact HBU.out | exact Below.drew HBU.out)).mono ?_; rintro e u ⟨rfl, hbu⟩; have HBN := Lib.hid ((show Below W2.heap.size W2 _ from by first | exact HBU.out | exact Below.drew HBU.out).trans (hbu.mono HBU.out.size)); clear HBU hbu; have HBU := HBN; clear HBN)
        (try go_wp2_with fail)
        refine hK.out _ _ (HW.out _ (by first | exact HBU.out | exact Below.drew HBU.out)) (fun hHeld => ?_)
        clear hK K
        try simp only [Act.put, List.setIfInBounds_toArray, List.set_cons_zero, List.set_cons_succ]
        refine wpAnyH_ready (rs := [29]) (by kernel_rfl) (by simp) ?_
        refine AllReadyH.cons (o := ⟨some 74, _, _, _, _, _⟩) rfl (fun K hK => ?_) AllReadyH.nil
        go_simp
        (go_at_call 16; refine (K9.out _ (by first | exact HBU.out | exact Below.drew HBU.out)).mono ?_; rintro e u ⟨rfl, hbu⟩; have HBN := Lib.hid ((show Below W2.heap.size W2 _ from by first | exact HBU.out | exact Below.drew HBU.out).trans (hbu.mono HBU.out.size)); clear HBU hbu; have HBU := HBN; clear HBN)
        (try go_wp2_with fail)
        refine hK.out _ _ (HW.out _ (by first | exact HBU.out | exact Below.drew HBU.out)) (fun hHeld => ?_)
        clear hK K
        try simp only [Act.put, List.setIfInBounds_toArray, List.set_cons_zero, List.set_cons_succ]
        refine wpAnyH_take (i := 30) (oi := ⟨some 75, _, _, _, _, _⟩) (v := ?_) rfl (by kernel_rfl) (by kernel_rfl) (by kernel_rfl) (fun _ _ _ h => h) (Or.inl ⟨by rfl, ?_⟩) (by assumption) ?_
        rotate_left
        · intro w hSw; (try dsimp only at hSw); go_simp; (try with_reducible rfl)
        try simp only [Act.put, List.setIfInBounds_toArray, List.set_cons_zero, List.set_cons_succ]
        refine wpAnyH_take (i := 31) (oi := ⟨some 76, _, _, _, _, _⟩) (v := ?_) rfl (by kernel_rfl) (by kernel_rfl) (by kernel_rfl) (fun _ _ _ h => h) (Or.inl ⟨by rfl, ?_⟩) (by assumption) ?_
        rotate_left
        · intro w hSw; (try dsimp only at hSw); go_simp; (try with_reducible rfl)
        try simp only [Act.put, List.setIfInBounds_toArray, List.set_cons_zero, List.set_cons_succ]
        refine wpAnyH_take (i := 32) (oi := ⟨some 77, _, _, _, _, _⟩) (v := ?_) rfl (by kernel_rfl) (by kernel_rfl) (by kernel_rfl) (fun _ _ _ h => h) (Or.inl ⟨by rfl, ?_⟩) (by assumption) ?_
        rotate_left
        · intro w hSw; (try dsimp only at hSw); go_simp; (try with_reducible rfl)
        try simp only [Act.put, List.setIfInBounds_toArray, List.set_cons_zero, List.set_cons_succ]
        refine wpAnyH_take (i := 33) (oi := ⟨some 78, _, _, _, _, _⟩) (v := ?_) rfl (by kernel_rfl) (by kernel_rfl) (by kernel_rfl) (fun _ _ _ h => h) (Or.inl ⟨by rfl, ?_⟩) (by assumption) ?_
        rotate_left
        · intro w hSw; (try dsimp only at hSw); go_simp; (try with_reducible rfl)
        try simp only [Act.put, List.setIfInBounds_toArray, List.set_cons_zero, List.set_cons_succ]
        refine wpAnyH_take (i := 35) (oi := ⟨some 80, _, _, _, _, _⟩) (v := ?_) rfl (by kernel_rfl) (by kernel_rfl) (by kernel_rfl) (fun _ _ _ h => h) (Or.inl ⟨by rfl, ?_⟩) (by assumption) ?_
        rotate_left
        · intro w hSw; (try dsimp only at hSw); go_simp; (try with_reducible rfl)
        try simp only [Act.put, List.setIfInBounds_toArray, List.set_cons_zero, List.set_cons_succ]
        refine wpAnyH_ready (rs := [34]) (by kernel_rfl) (by simp) ?_
        refine AllReadyH.cons (o := ⟨some 79, _, _, _, _, _⟩) rfl (fun K hK => ?_) AllReadyH.nil
        go_simp
        (go_at_call 17; refine (K10.out _ (by first | exact HBU.out | exact Below.drew HBU.out)).mono ?_; rintro e u ⟨rfl, hbu⟩; have HBN := Lib.hid ((show Below W2.heap.size W2 _ from by first | exact HBU.out | exact Below.drew HBU.out).trans (hbu.mono HBU.out.size)); clear HBU hbu; have HBU := HBN; clear HBN)
        (try go_wp2_with fail)
        refine hK.out _ _ (HW.out _ (by first | exact HBU.out | exact Below.drew HBU.out)) (fun hHeld => ?_)
        clear hK K
        try simp only [Act.put, List.setIfInBounds_toArray, List.set_cons_zero, List.set_cons_succ]
        refine wpAnyH_ready (rs := [36]) (by kernel_rfl) (by simp) ?_
        refine AllReadyH.cons (o := ⟨some 81, _, _, _, _, _⟩) rfl (fun K hK => ?_) AllReadyH.nil
        go_simp
        (go_at_call 18; refine (K11.out _ (by first | exact HBU.out | exact Below.drew HBU.out)).mono ?_; rintro e u ⟨rfl, hbu⟩; have HBN := Lib.hid ((show Below W2.heap.size W2 _ from by first | exact HBU.out | exact Below.drew HBU.out).trans (hbu.mono HBU.out.size)); clear HBU hbu; have HBU := HBN; clear HBN)
        (try go_wp2_with fail)
        refine hK.out _ _ (HW.out _ (by first | exact HBU.out | exact Below.drew HBU.out)) (fun hHeld => ?_)
        clear hK K
        try simp only [Act.put, List.setIfInBounds_toArray, List.set_cons_zero, List.set_cons_succ]
        refine wpAnyH_take (i := 37) (oi := ⟨some 82, _, _, _, _, _⟩) (v := ?_) rfl (by kernel_rfl) (by kernel_rfl) (by kernel_rfl) (fun _ _ _ h => h) (Or.inl ⟨by rfl, ?_⟩) (by assumption) ?_
        rotate_left
        · intro w hSw; (try dsimp only at hSw); go_simp; (try with_reducible rfl)
        try simp only [Act.put, List.setIfInBounds_toArray, List.set_cons_zero, List.set_cons_succ]
        refine wpAnyH_take (i := 38) (oi := ⟨some 83, _, _, _, _, _⟩) (v := ?_) rfl (by kernel_rfl) (by kernel_rfl) (by kernel_rfl) (fun _ _ _ h => h) (Or.inl ⟨by rfl, ?_⟩) (by assumption) ?_
        rotate_left
        · intro w hSw; (try dsimp only at hSw); go_simp; (try with_reducible rfl)
        try simp only [Act.put, List.setIfInBounds_toArray, List.set_cons_zero, List.set_cons_succ]
        refine wpAnyH_take (i := 39) (oi := ⟨some 84, _, _, _, _, _⟩) (v := ?_) rfl (by kernel_rfl) (by kernel_rfl) (by kernel_rfl) (fun _ _ _ h => h) (Or.inl ⟨by rfl, ?_⟩) (by assumption) ?_
        rotate_left
        · intro w hSw; (try dsimp only at hSw); go_simp; (try with_reducible rfl)
        try simp only [Act.put, List.setIfInBounds_toArray, List.set_cons_zero, List.set_cons_succ]
        refine wpAnyH_take (i := 40) (oi := ⟨some 85, _, _, _, _, _⟩) (v := ?_) rfl (by kernel_rfl) (by kernel_rfl) (by kernel_rfl) (fun _ _ _ h => h) (Or.inl ⟨by rfl, ?_⟩) (by assumption) ?_
        rotate_left
        · intro w hSw; (try dsimp only at hSw); go_simp; (try with_reducible rfl)
        try simp only [Act.put, List.setIfInBounds_toArray, List.set_cons_zero, List.set_cons_succ]
        refine wpAnyH_take (i := 42) (oi := ⟨some 87, _, _, _, _, _⟩) (v := ?_) rfl (by kernel_rfl) (by kernel_rfl) (by kernel_rfl) (fun _ _ _ h => h) (Or.inl ⟨by rfl, ?_⟩) (by assumption) ?_
        rotate_left
        · intro w hSw; (try dsimp only at hSw); go_simp; (try with_reducible rfl)
        try simp only [Act.put, List.setIfInBounds_toArray, List.set_cons_zero, List.set_cons_succ]
        refine wpAnyH_ready (rs := [41]) (by kernel_rfl) (by simp) ?_
        refine AllReadyH.cons (o := ⟨some 86, _, _, _, _, _⟩) rfl (fun K hK => ?_) AllReadyH.nil
        go_simp
        (go_at_call 19; refine (K12.out _ (by first | exact HBU.out | exact Below.drew HBU.out)).mono ?_; rintro e u ⟨rfl, hbu⟩; have HBN := Lib.hid ((show Below W2.heap.size W2 _ from by first | exact HBU.out | exact Below.drew HBU.out).trans (hbu.mono HBU.out.size)); clear HBU hbu; have HBU := HBN; clear HBN)
        (try go_wp2_with fail)
        refine hK.out _ _ (HW.out _ (by first | exact HBU.out | exact Below.drew HBU.out)) (fun hHeld => ?_)
        clear hK K
        try simp only [Act.put, List.setIfInBounds_toArray, List.set_cons_zero, List.set_cons_succ]
        refine wpAnyH_ready (rs := [43]) (by kernel_rfl) (by simp) ?_
        refine AllReadyH.cons (o := ⟨some 88, _, _, _, _, _⟩) rfl (fun K hK => ?_) AllReadyH.nil
        go_simp
        (go_at_call 20; refine (K13.out _ (by first | exact HBU.out | exact Below.drew HBU.out)).mono ?_; rintro e u ⟨rfl, hbu⟩; have HBN := Lib.hid ((show Below W2.heap.size W2 _ from by first | exact HBU.out | exact Below.drew HBU.out).trans (hbu.mono HBU.out.size)); clear HBU hbu; have HBU := HBN; clear HBN)
        (try go_wp2_with fail)
        refine hK.out _ _ (HW.out _ (by first | exact HBU.out | exact Below.drew HBU.out)) (fun hHeld => ?_)
        clear hK K
        try simp only [Act.put, List.setIfInBounds_toArray, List.set_cons_zero, List.set_cons_succ]
        refine wpAnyH_take (i := 44) (oi := ⟨some 89, _, _, _, _, _⟩) (v := ?_) rfl (by kernel_rfl) (by kernel_rfl) (by kernel_rfl) (fun _ _ _ h => h) (Or.inl ⟨by rfl, ?_⟩) (by assumption) ?_
        rotate_left
        · intro w hSw; (try dsimp only at hSw); go_simp; (try with_reducible rfl)
        try simp only [Act.put, List.setIfInBounds_toArray, List.set_cons_zero, List.set_cons_succ]
        refine wpAnyH_take (i := 45) (oi := ⟨some 90, _, _, _, _, _⟩) (v := ?_) rfl (by kernel_rfl) (by kernel_rfl) (by kernel_rfl) (fun _ _ _ h => h) (Or.inl ⟨by rfl, ?_⟩) (by assumption) ?_
        rotate_left
        · intro w hSw; (try dsimp only at hSw); go_simp; (try with_reducible rfl)
        try simp only [Act.put, List.setIfInBounds_toArray, List.set_cons_zero, List.set_cons_succ]
        refine wpAnyH_take (i := 46) (oi := ⟨some 91, _, _, _, _, _⟩) (v := ?_) rfl (by kernel_rfl) (by kernel_rfl) (by kernel_rfl) (fun _ _ _ h => h) (Or.inl ⟨by rfl, ?_⟩) (by assumption) ?_
        rotate_left
        · intro w hSw; (try dsimp only at hSw); go_simp; (try with_reducible rfl)
        try simp only [Act.put, List.setIfInBounds_toArray, List.set_cons_zero, List.set_cons_succ]
        refine wpAnyH_take (i := 47) (oi := ⟨some 92, _, _, _, _, _⟩) (v := ?_) rfl (by kernel_rfl) (by kernel_rfl) (by kernel_rfl) (fun _ _ _ h => h) (Or.inl ⟨by rfl, ?_⟩) (by assumption) ?_
        rotate_left
        · intro w hSw; (try dsimp only at hSw); go_simp; (try with_reducible rfl)
        try simp only [Act.put, List.setIfInBounds_toArray, List.set_cons_zero, List.set_cons_succ]
        refine wpAnyH_take (i := 48) (oi := ⟨some 93, _, _, _, _, _⟩) (v := ?_) rfl (by kernel_rfl) (by kernel_rfl) (by kernel_rfl) (fun _ _ _ h => h) (Or.inl ⟨by rfl, ?_⟩) (by assumption) ?_
        rotate_left
        · intro w hSw; (try dsimp only at hSw); go_simp; (try with_reducible rfl)
        try simp only [Act.put, List.setIfInBounds_toArray, List.set_cons_zero, List.set_cons_succ]
        refine wpAnyH_take (i := 49) (oi := ⟨some 94, _, _, _, _, _⟩) (v := ?_) rfl (by kernel_rfl) (by kernel_rfl) (by kernel_rfl) (fun _ _ _ h => h) (Or.inl ⟨by rfl, ?_⟩) (by assumption) ?_
        rotate_left
        · intro w hSw; (try dsimp only at hSw); go_simp; (try with_reducible rfl)
        try simp only [Act.put, List.setIfInBounds_toArray, List.set_cons_zero, List.set_cons_succ]
        refine wpAnyH_take (i := 50) (oi := ⟨some 95, _, _, _, _, _⟩) (v := ?_) rfl (by kernel_rfl) (by kernel_rfl) (by kernel_rfl) (fun _ _ _ h => h) (Or.inl ⟨by rfl, ?_⟩) (by assumption) ?_
        rotate_left
        · intro w hSw; (try dsimp only at hSw); go_simp; (try with_reducible rfl)
        try simp only [Act.put, List.setIfInBounds_toArray, List.set_cons_zero, List.set_cons_succ]
        refine wpAnyH_take (i := 52) (oi := ⟨some 97, _, _, _, _, _⟩) (v := ?_) rfl (by kernel_rfl) (by kernel_rfl) (by kernel_rfl) (fun _ _ _ h => h) (Or.inl ⟨by rfl, ?_⟩) (by assumption) ?_
        rotate_left
        · intro w hSw; (try dsimp only at hSw); go_simp; (try with_reducible rfl)
        try simp only [Act.put, List.setIfInBounds_toArray, List.set_cons_zero, List.set_cons_succ]
        refine wpAnyH_ready (rs := [51]) (by kernel_rfl) (by simp) ?_
        refine AllReadyH.cons (o := ⟨some 96, _, _, _, _, _⟩) rfl (fun K hK => ?_) AllReadyH.nil
        go_simp
        (go_at_call 21; refine (K14.out trivial _ (by first | exact HBU.out | exact Below.drew HBU.out)).mono ?_; rintro e u ⟨rfl, hbu⟩; have HBN := Lib.hid ((show Below W2.heap.size W2 _ from by first | exact HBU.out | exact Below.drew HBU.out).trans (hbu.mono HBU.out.size)); clear HBU hbu; have HBU := HBN; clear HBN)
        (try go_wp2_with fail)
        refine hK.out _ _ (HW.out _ (by first | exact HBU.out | exact Below.drew HBU.out)) (fun hHeld => ?_)
        clear hK K
        try simp only [Act.put, List.setIfInBounds_toArray, List.set_cons_zero, List.set_cons_succ]
        refine wpAnyH_ready (rs := [53]) (by kernel_rfl) (by simp) ?_
        refine AllReadyH.cons (o := ⟨some 98, _, _, _, _, _⟩) rfl (fun K hK => ?_) AllReadyH.nil
        go_simp
        (go_at_call 22; refine (K15.out trivial _ (by first | exact HBU.out | exact Below.drew HBU.out)).mono ?_; rintro e u ⟨rfl, hbu⟩; have HBN := Lib.hid ((show Below W2.heap.size W2 _ from by first | exact HBU.out | exact Below.drew HBU.out).trans (hbu.mono HBU.out.size)); clear HBU hbu; have HBU := HBN; clear HBN)
        (try go_wp2_with fail)
        refine hK.out _ _ (HW.out _ (by first | exact HBU.out | exact Below.drew HBU.out)) (fun hHeld => ?_)
        clear hK K
        try simp only [Act.put, List.setIfInBounds_toArray, List.set_cons_zero, List.set_cons_succ]
        refine wpAnyH_take (i := 54) (oi := ⟨some 99, _, _, _, _, _⟩) (v := ?_) rfl (by kernel_rfl) (by kernel_rfl) (by kernel_rfl) (fun _ _ _ h => h) (Or.inl ⟨by rfl, ?_⟩) (by assumption) ?_
        rotate_left
        · intro w hSw; (try dsimp only at hSw); go_simp; (try with_reducible rfl)
        try simp only [Act.put, List.setIfInBounds_toArray, List.set_cons_zero, List.set_cons_succ]
        refine wpAnyH_take (i := 55) (oi := ⟨some 100, _, _, _, _, _⟩) (v := ?_) rfl (by kernel_rfl) (by kernel_rfl) (by kernel_rfl) (fun _ _ _ h => h) (Or.inl ⟨by rfl, ?_⟩) (by assumption) ?_
        rotate_left
        · intro w hSw; (try dsimp only at hSw); go_simp; (try with_reducible rfl)
        try simp only [Act.put, List.setIfInBounds_toArray, List.set_cons_zero, List.set_cons_succ]
        refine wpAnyH_take (i := 56) (oi := ⟨some 101, _, _, _, _, _⟩) (v := ?_) rfl (by kernel_rfl) (by kernel_rfl) (by kernel_rfl) (fun _ _ _ h => h) (Or.inl ⟨by rfl, ?_⟩) (by assumption) ?_
        rotate_left
        · intro w hSw; (try dsimp only at hSw); go_simp; (try with_reducible rfl)
        try simp only [Act.put, List.setIfInBounds_toArray, List.set_cons_zero, List.set_cons_succ]
        refine wpAnyH_take (i := 57) (oi := ⟨some 6, _, _, _, _, _⟩) (v := ?_) rfl (by kernel_rfl) (by kernel_rfl) (by kernel_rfl) (fun _ _ _ h => h) (Or.inl ⟨by rfl, ?_⟩) (by assumption) ?_
        rotate_left
        · intro w hSw; (try dsimp only at hSw); go_simp; (try with_reducible rfl)
        try simp only [Act.put, List.setIfInBounds_toArray, List.set_cons_zero, List.set_cons_succ]
        refine wpAnyH_done (by kernel_rfl) ?_ _
        refine NoPanic.normal ?_
        go_wp2_with fail
        apply bodyPost_ret
        case hr => exact results_tmp rfl _ _ _
        case hd => rfl
        case hR => exact ⟨rfl, HB.out _ HBU.out⟩
      case false =>
        clear K1 K14 K15
        refine wp_region_noPanic ?_
        refine wp_region_held_drew (S := (fun w' => w'.cell? ⟨w.heap.size, 0, none⟩ = some (.int .i64 ak) ∧ w'.cell? ⟨w.heap.size, 1, none⟩ = some (.string sa) ∧ w'.cell? ⟨w.heap.size, 2, none⟩ = some (.int .i64 an) ∧ w'.cell? ⟨w.heap.size + 1, 0, none⟩ = some (.int .i64 bk) ∧ w'.cell? ⟨w.heap.size + 1, 1, none⟩ = some (.string sb) ∧ w'.cell? ⟨w.heap.size + 1, 2, none⟩ = some (.int .i64 bn))) (by kernel_rfl) (HW.out _ (Below.drew HBU.out)) (fun hHeld => ?_)
        refine wpAnyH_take (i := 0) (oi := ⟨some 45, _, _, _, _, _⟩) (v := ?_) rfl (by kernel_rfl) (by kernel_rfl) (by kernel_rfl) (fun _ _ _ h => h) (Or.inl ⟨by rfl, ?_⟩) (by assumption) ?_
        rotate_left
        · intro w hSw; (try dsimp only at hSw); go_simp; (try with_reducible rfl)
        try simp only [Act.put, List.setIfInBounds_toArray, List.set_cons_zero, List.set_cons_succ]
        refine wpAnyH_take (i := 1) (oi := ⟨some 46, _, _, _, _, _⟩) (v := ?_) rfl (by kernel_rfl) (by kernel_rfl) (by kernel_rfl) (fun _ _ _ h => h) (Or.inl ⟨by rfl, ?_⟩) (by assumption) ?_
        rotate_left
        · intro w hSw; (try dsimp only at hSw); go_simp; (try with_reducible rfl)
        try simp only [Act.put, List.setIfInBounds_toArray, List.set_cons_zero, List.set_cons_succ]
        refine wpAnyH_take (i := 2) (oi := ⟨some 47, _, _, _, _, _⟩) (v := ?_) rfl (by kernel_rfl) (by kernel_rfl) (by kernel_rfl) (fun _ _ _ h => h) (Or.inl ⟨by rfl, ?_⟩) (by assumption) ?_
        rotate_left
        · intro w hSw; (try dsimp only at hSw); go_simp; (try with_reducible rfl)
        try simp only [Act.put, List.setIfInBounds_toArray, List.set_cons_zero, List.set_cons_succ]
        refine wpAnyH_take (i := 4) (oi := ⟨some 49, _, _, _, _, _⟩) (v := ?_) rfl (by kernel_rfl) (by kernel_rfl) (by kernel_rfl) (fun _ _ _ h => h) (Or.inl ⟨by rfl, ?_⟩) (by assumption) ?_
        rotate_left
        · intro w hSw; (try dsimp only at hSw); go_simp; (try with_reducible rfl)
        try simp only [Act.put, List.setIfInBounds_toArray, List.set_cons_zero, List.set_cons_succ]
        refine wpAnyH_ready (rs := [3]) (by kernel_rfl) (by simp) ?_
        refine AllReadyH.cons (o := ⟨some 48, _, _, _, _, _⟩) rfl (fun K hK => ?_) AllReadyH.nil
        go_simp
        (go_at_call 9; refine (K2.out _ (by first | exact HBU.out | exact Below.drew HBU.out)).mono ?_; rintro e u ⟨rfl, hbu⟩; have HBN := Lib.hid ((show Below W2.heap.size W2 _ from by first | exact HBU.out | exact Below.drew HBU.out).trans (hbu.mono HBU.out.size)); clear HBU hbu; have HBU := HBN; clear HBN)
        (try go_wp2_with fail)
        refine hK.out _ _ (HW.out _ (by first | exact HBU.out | exact Below.drew HBU.out)) (fun hHeld => ?_)
        clear hK K
        try simp only [Act.put, List.setIfInBounds_toArray, List.set_cons_zero, List.set_cons_succ]
        refine wpAnyH_take (i := 5) (oi := ⟨some 50, _, _, _, _, _⟩) (v := ?_) rfl (by kernel_rfl) (by kernel_rfl) (by kernel_rfl) (fun _ _ _ h => h) (Or.inl ⟨by rfl, ?_⟩) (by assumption) ?_
        rotate_left
        · intro w hSw; (try dsimp only at hSw); go_simp; (try with_reducible rfl)
        try simp only [Act.put, List.setIfInBounds_toArray, List.set_cons_zero, List.set_cons_succ]
        refine wpAnyH_take (i := 6) (oi := ⟨some 51, _, _, _, _, _⟩) (v := ?_) rfl (by kernel_rfl) (by kernel_rfl) (by kernel_rfl) (fun _ _ _ h => h) (Or.inl ⟨by rfl, ?_⟩) (by assumption) ?_
        rotate_left
        · intro w hSw; (try dsimp only at hSw); go_simp; (try with_reducible rfl)
        try simp only [Act.put, List.setIfInBounds_toArray, List.set_cons_zero, List.set_cons_succ]
        refine wpAnyH_take (i := 7) (oi := ⟨some 52, _, _, _, _, _⟩) (v := ?_) rfl (by kernel_rfl) (by kernel_rfl) (by kernel_rfl) (fun _ _ _ h => h) (Or.inl ⟨by rfl, ?_⟩) (by assumption) ?_
        rotate_left
        · intro w hSw; (try dsimp only at hSw); go_simp; (try with_reducible rfl)
        try simp only [Act.put, List.setIfInBounds_toArray, List.set_cons_zero, List.set_cons_succ]
        refine wpAnyH_take (i := 8) (oi := ⟨some 53, _, _, _, _, _⟩) (v := ?_) rfl (by kernel_rfl) (by kernel_rfl) (by kernel_rfl) (fun _ _ _ h => h) (Or.inl ⟨by rfl, ?_⟩) (by assumption) ?_
        rotate_left
        · intro w hSw; (try dsimp only at hSw); go_simp; (try with_reducible rfl)
        try simp only [Act.put, List.setIfInBounds_toArray, List.set_cons_zero, List.set_cons_succ]
        refine wpAnyH_take (i := 9) (oi := ⟨some 54, _, _, _, _, _⟩) (v := ?_) rfl (by kernel_rfl) (by kernel_rfl) (by kernel_rfl) (fun _ _ _ h => h) (Or.inl ⟨by rfl, ?_⟩) (by assumption) ?_
        rotate_left
        · intro w hSw; (try dsimp only at hSw); go_simp; (try with_reducible rfl)
        try simp only [Act.put, List.setIfInBounds_toArray, List.set_cons_zero, List.set_cons_succ]
        refine wpAnyH_take (i := 11) (oi := ⟨some 56, _, _, _, _, _⟩) (v := ?_) rfl (by kernel_rfl) (by kernel_rfl) (by kernel_rfl) (fun _ _ _ h => h) (Or.inl ⟨by rfl, ?_⟩) (by assumption) ?_
        rotate_left
        · intro w hSw; (try dsimp only at hSw); go_simp; (try with_reducible rfl)
        try simp only [Act.put, List.setIfInBounds_toArray, List.set_cons_zero, List.set_cons_succ]
        refine wpAnyH_take (i := 12) (oi := ⟨some 57, _, _, _, _, _⟩) (v := ?_) rfl (by kernel_rfl) (by kernel_rfl) (by kernel_rfl) (fun _ _ _ h => h) (Or.inl ⟨by rfl, ?_⟩) (by assumption) ?_
        rotate_left
        · intro w hSw; (try dsimp only at hSw); go_simp; (try with_reducible rfl)
        try simp only [Act.put, List.setIfInBounds_toArray, List.set_cons_zero, List.set_cons_succ]
        refine wpAnyH_ready (rs := [10]) (by kernel_rfl) (by simp) ?_
        refine AllReadyH.cons (o := ⟨some 55, _, _, _, _, _⟩) rfl (fun K hK => ?_) AllReadyH.nil
        go_simp
        (go_at_call 10; refine (K3.out _ (by first | exact HBU.out | exact Below.drew HBU.out)).mono ?_; rintro e u ⟨rfl, hbu⟩; have HBN := Lib.hid ((show Below W2.heap.size W2 _ from by first | exact HBU.out | exact Below.drew HBU.out).trans (hbu.mono HBU.out.size)); clear HBU hbu; have HBU := HBN; clear HBN)
        (try go_wp2_with fail)
        refine hK.out _ _ (HW.out _ (by first | exact HBU.out | exact Below.drew HBU.out)) (fun hHeld => ?_)
        clear hK K
        try simp only [Act.put, List.setIfInBounds_toArray, List.set_cons_zero, List.set_cons_succ]
        refine wpAnyH_ready (rs := [13]) (by kernel_rfl) (by simp) ?_
        refine AllReadyH.cons (o := ⟨some 58, _, _, _, _, _⟩) rfl (fun K hK => ?_) AllReadyH.nil
        go_simp
        (go_at_call 11; refine (K4.out _ (by first | exact HBU.out | exact Below.drew HBU.out)).mono ?_; rintro e u ⟨rfl, hbu⟩; have HBN := Lib.hid ((show Below W2.heap.size W2 _ from by first | exact HBU.out | exact Below.drew HBU.out).trans (hbu.mono HBU.out.size)); clear HBU hbu; have HBU := HBN; clear HBN)
        (try go_wp2_with fail)
        refine hK.out _ _ (HW.out _ (by first | exact HBU.out | exact Below.drew HBU.out)) (fun hHeld => ?_)
        clear hK K
        try simp only [Act.put, List.setIfInBounds_toArray, List.set_cons_zero, List.set_cons_succ]
        refine wpAnyH_take (i := 14) (oi := ⟨some 59, _, _, _, _, _⟩) (v := ?_) rfl (by kernel_rfl) (by kernel_rfl) (by kernel_rfl) (fun _ _ _ h => h) (Or.inl ⟨by rfl, ?_⟩) (by assumption) ?_
        rotate_left
        · intro w hSw; (try dsimp only at hSw); go_simp; (try with_reducible rfl)
        try simp only [Act.put, List.setIfInBounds_toArray, List.set_cons_zero, List.set_cons_succ]
        refine wpAnyH_take (i := 15) (oi := ⟨some 60, _, _, _, _, _⟩) (v := ?_) rfl (by kernel_rfl) (by kernel_rfl) (by kernel_rfl) (fun _ _ _ h => h) (Or.inl ⟨by rfl, ?_⟩) (by assumption) ?_
        rotate_left
        · intro w hSw; (try dsimp only at hSw); go_simp; (try with_reducible rfl)
        try simp only [Act.put, List.setIfInBounds_toArray, List.set_cons_zero, List.set_cons_succ]
        refine wpAnyH_take (i := 16) (oi := ⟨some 61, _, _, _, _, _⟩) (v := ?_) rfl (by kernel_rfl) (by kernel_rfl) (by kernel_rfl) (fun _ _ _ h => h) (Or.inl ⟨by rfl, ?_⟩) (by assumption) ?_
        rotate_left
        · intro w hSw; (try dsimp only at hSw); go_simp; (try with_reducible rfl)
        try simp only [Act.put, List.setIfInBounds_toArray, List.set_cons_zero, List.set_cons_succ]
        refine wpAnyH_take (i := 17) (oi := ⟨some 62, _, _, _, _, _⟩) (v := ?_) rfl (by kernel_rfl) (by kernel_rfl) (by kernel_rfl) (fun _ _ _ h => h) (Or.inl ⟨by rfl, ?_⟩) (by assumption) ?_
        rotate_left
        · intro w hSw; (try dsimp only at hSw); go_simp; (try with_reducible rfl)
        try simp only [Act.put, List.setIfInBounds_toArray, List.set_cons_zero, List.set_cons_succ]
        refine wpAnyH_take (i := 19) (oi := ⟨some 64, _, _, _, _, _⟩) (v := ?_) rfl (by kernel_rfl) (by kernel_rfl) (by kernel_rfl) (fun _ _ _ h => h) (Or.inl ⟨by rfl, ?_⟩) (by assumption) ?_
        rotate_left
        · intro w hSw; (try dsimp only at hSw); go_simp; (try with_reducible rfl)
        try simp only [Act.put, List.setIfInBounds_toArray, List.set_cons_zero, List.set_cons_succ]
        refine wpAnyH_ready (rs := [18]) (by kernel_rfl) (by simp) ?_
        refine AllReadyH.cons (o := ⟨some 63, _, _, _, _, _⟩) rfl (fun K hK => ?_) AllReadyH.nil
        go_simp
        (go_at_call 13; refine (K5.out _ HBU.out).mono ?_; rintro e u ⟨s1, d1, rfl, ht1, _, hbu⟩; have HT1 := Lib.hid ht1; have HBN := Lib.hid (HBU.out.trans (hbu.mono HBU.out.size)); clear HBU hbu ht1; have HBU := HBN; clear HBN)
        (try go_wp2_with fail)
        refine hK.out _ _ (HW.out _ (by first | exact HBU.out | exact Below.drew HBU.out)) (fun hHeld => ?_)
        clear hK K
        try simp only [Act.put, List.setIfInBounds_toArray, List.set_cons_zero, List.set_cons_succ]
        refine wpAnyH_ready (rs := [20]) (by kernel_rfl) (by simp) ?_
        refine AllReadyH.cons (o := ⟨some 65, _, _, _, _, _⟩) rfl (fun K hK => ?_) AllReadyH.nil
        go_simp
        (go_at_call 14; refine (K6.out _ HBU.out).mono ?_; rintro e u ⟨s2, d2, rfl, ht2, _, _, _, hbu⟩; have HT2 := Lib.hid (And.intro (HT1.out.below hbu) ht2); have HBN := Lib.hid (HBU.out.trans (hbu.mono HBU.out.size)); clear HBU hbu ht2 HT1; have HBU := HBN; clear HBN)
        (try go_wp2_with fail)
        refine hK.out _ _ (HW.out _ (by first | exact HBU.out | exact Below.drew HBU.out)) (fun hHeld => ?_)
        clear hK K
        try simp only [Act.put, List.setIfInBounds_toArray, List.set_cons_zero, List.set_cons_succ]
        refine wpAnyH_ready (rs := [21]) (by kernel_rfl) (by simp) ?_
        refine AllReadyH.cons (o := ⟨some 66, _, _, _, _, _⟩) rfl (fun K hK => ?_) AllReadyH.nil
        go_simp
        (go_at_call 12; refine (K7.out _ _ _ _ _ HT2.out.1 HT2.out.2).mono ?_; rintro e u ⟨rfl, hbu⟩; have HBN := Lib.hid (HBU.out.trans (hbu.mono HBU.out.size)); clear HBU hbu HT2; have HBU := HBN; clear HBN)
        (try go_wp2_with fail)
        refine hK.out _ _ (HW.out _ (by first | exact HBU.out | exact Below.drew HBU.out)) (fun hHeld => ?_)
        clear hK K
        try simp only [Act.put, List.setIfInBounds_toArray, List.set_cons_zero, List.set_cons_succ]
        refine wpAnyH_take (i := 22) (oi := ⟨some 67, _, _, _, _, _⟩) (v := ?_) rfl (by kernel_rfl) (by kernel_rfl) (by kernel_rfl) (fun _ _ _ h => h) (Or.inl ⟨by rfl, ?_⟩) (by assumption) ?_
        rotate_left
        · intro w hSw; (try dsimp only at hSw); go_simp; (try with_reducible rfl)
        try simp only [Act.put, List.setIfInBounds_toArray, List.set_cons_zero, List.set_cons_succ]
        refine wpAnyH_take (i := 23) (oi := ⟨some 68, _, _, _, _, _⟩) (v := ?_) rfl (by kernel_rfl) (by kernel_rfl) (by kernel_rfl) (fun _ _ _ h => h) (Or.inl ⟨by rfl, ?_⟩) (by assumption) ?_
        rotate_left
        · intro w hSw; (try dsimp only at hSw); go_simp; (try with_reducible rfl)
        try simp only [Act.put, List.setIfInBounds_toArray, List.set_cons_zero, List.set_cons_succ]
        refine wpAnyH_take (i := 24) (oi := ⟨some 69, _, _, _, _, _⟩) (v := ?_) rfl (by kernel_rfl) (by kernel_rfl) (by kernel_rfl) (fun _ _ _ h => h) (Or.inl ⟨by rfl, ?_⟩) (by assumption) ?_
        rotate_left
        · intro w hSw; (try dsimp only at hSw); go_simp; (try with_reducible rfl)
        try simp only [Act.put, List.setIfInBounds_toArray, List.set_cons_zero, List.set_cons_succ]
        refine wpAnyH_take (i := 25) (oi := ⟨some 70, _, _, _, _, _⟩) (v := ?_) rfl (by kernel_rfl) (by kernel_rfl) (by kernel_rfl) (fun _ _ _ h => h) (Or.inl ⟨by rfl, ?_⟩) (by assumption) ?_
        rotate_left
        · intro w hSw; (try dsimp only at hSw); go_simp; (try with_reducible rfl)
        try simp only [Act.put, List.setIfInBounds_toArray, List.set_cons_zero, List.set_cons_succ]
        refine wpAnyH_take (i := 27) (oi := ⟨some 72, _, _, _, _, _⟩) (v := ?_) rfl (by kernel_rfl) (by kernel_rfl) (by kernel_rfl) (fun _ _ _ h => h) (Or.inl ⟨by rfl, ?_⟩) (by assumption) ?_
        rotate_left
        · intro w hSw; (try dsimp only at hSw); go_simp; (try with_reducible rfl)
        try simp only [Act.put, List.setIfInBounds_toArray, List.set_cons_zero, List.set_cons_succ]
        refine wpAnyH_take (i := 28) (oi := ⟨some 73, _, _, _, _, _⟩) (v := ?_) rfl (by kernel_rfl) (by kernel_rfl) (by kernel_rfl) (fun _ _ _ h => h) (Or.inl ⟨by rfl, ?_⟩) (by assumption) ?_
        rotate_left
        · intro w hSw; (try dsimp only at hSw); go_simp; (try with_reducible rfl)
        try simp only [Act.put, List.setIfInBounds_toArray, List.set_cons_zero, List.set_cons_succ]
        refine wpAnyH_ready (rs := [26]) (by kernel_rfl) (by simp) ?_
        refine AllReadyH.cons (o := ⟨some 71, _, _, _, _, _⟩) rfl (fun K hK => ?_) AllReadyH.nil
        go_simp
        (go_at_call 15; refine (K8.out _ (by first | exact HBU.out | exact Below.drew HBU.out)).mono ?_; rintro e u ⟨rfl, hbu⟩; have HBN := Lib.hid ((show Below W2.heap.size W2 _ from by first | exact HBU.out | exact Below.drew HBU.out).trans (hbu.mono HBU.out.size)); clear HBU hbu; have HBU := HBN; clear HBN)
        (try go_wp2_with fail)
        refine hK.out _ _ (HW.out _ (by first | exact HBU.out | exact Below.drew HBU.out)) (fun hHeld => ?_)
        clear hK K
        try simp only [Act.put, List.setIfInBounds_toArray, List.set_cons_zero, List.set_cons_succ]
        refine wpAnyH_ready (rs := [29]) (by kernel_rfl) (by simp) ?_
        refine AllReadyH.cons (o := ⟨some 74, _, _, _, _, _⟩) rfl (fun K hK => ?_) AllReadyH.nil
        go_simp
        (go_at_call 16; refine (K9.out _ (by first | exact HBU.out | exact Below.drew HBU.out)).mono ?_; rintro e u ⟨rfl, hbu⟩; have HBN := Lib.hid ((show Below W2.heap.size W2 _ from by first | exact HBU.out | exact Below.drew HBU.out).trans (hbu.mono HBU.out.size)); clear HBU hbu; have HBU := HBN; clear HBN)
        (try go_wp2_with fail)
        refine hK.out _ _ (HW.out _ (by first | exact HBU.out | exact Below.drew HBU.out)) (fun hHeld => ?_)
        clear hK K
        try simp only [Act.put, List.setIfInBounds_toArray, List.set_cons_zero, List.set_cons_succ]
        refine wpAnyH_take (i := 30) (oi := ⟨some 75, _, _, _, _, _⟩) (v := ?_) rfl (by kernel_rfl) (by kernel_rfl) (by kernel_rfl) (fun _ _ _ h => h) (Or.inl ⟨by rfl, ?_⟩) (by assumption) ?_
        rotate_left
        · intro w hSw; (try dsimp only at hSw); go_simp; (try with_reducible rfl)
        try simp only [Act.put, List.setIfInBounds_toArray, List.set_cons_zero, List.set_cons_succ]
        refine wpAnyH_take (i := 31) (oi := ⟨some 76, _, _, _, _, _⟩) (v := ?_) rfl (by kernel_rfl) (by kernel_rfl) (by kernel_rfl) (fun _ _ _ h => h) (Or.inl ⟨by rfl, ?_⟩) (by assumption) ?_
        rotate_left
        · intro w hSw; (try dsimp only at hSw); go_simp; (try with_reducible rfl)
        try simp only [Act.put, List.setIfInBounds_toArray, List.set_cons_zero, List.set_cons_succ]
        refine wpAnyH_take (i := 32) (oi := ⟨some 77, _, _, _, _, _⟩) (v := ?_) rfl (by kernel_rfl) (by kernel_rfl) (by kernel_rfl) (fun _ _ _ h => h) (Or.inl ⟨by rfl, ?_⟩) (by assumption) ?_
        rotate_left
        · intro w hSw; (try dsimp only at hSw); go_simp; (try with_reducible rfl)
        try simp only [Act.put, List.setIfInBounds_toArray, List.set_cons_zero, List.set_cons_succ]
        refine wpAnyH_take (i := 33) (oi := ⟨some 78, _, _, _, _, _⟩) (v := ?_) rfl (by kernel_rfl) (by kernel_rfl) (by kernel_rfl) (fun _ _ _ h => h) (Or.inl ⟨by rfl, ?_⟩) (by assumption) ?_
        rotate_left
        · intro w hSw; (try dsimp only at hSw); go_simp; (try with_reducible rfl)
        try simp only [Act.put, List.setIfInBounds_toArray, List.set_cons_zero, List.set_cons_succ]
        refine wpAnyH_take (i := 35) (oi := ⟨some 80, _, _, _, _, _⟩) (v := ?_) rfl (by kernel_rfl) (by kernel_rfl) (by kernel_rfl) (fun _ _ _ h => h) (Or.inl ⟨by rfl, ?_⟩) (by assumption) ?_
        rotate_left
        · intro w hSw; (try dsimp only at hSw); go_simp; (try with_reducible rfl)
        try simp only [Act.put, List.setIfInBounds_toArray, List.set_cons_zero, List.set_cons_succ]
        refine wpAnyH_ready (rs := [34]) (by kernel_rfl) (by simp) ?_
        refine AllReadyH.cons (o := ⟨some 79, _, _, _, _, _⟩) rfl (fun K hK => ?_) AllReadyH.nil
        go_simp
        (go_at_call 17; refine (K10.out _ (by first | exact HBU.out | exact Below.drew HBU.out)).mono ?_; rintro e u ⟨rfl, hbu⟩; have HBN := Lib.hid ((show Below W2.heap.size W2 _ from by first | exact HBU.out | exact Below.drew HBU.out).trans (hbu.mono HBU.out.size)); clear HBU hbu; have HBU := HBN; clear HBN)
        (try go_wp2_with fail)
        refine hK.out _ _ (HW.out _ (by first | exact HBU.out | exact Below.drew HBU.out)) (fun hHeld => ?_)
        clear hK K
        try simp only [Act.put, List.setIfInBounds_toArray, List.set_cons_zero, List.set_cons_succ]
        refine wpAnyH_ready (rs := [36]) (by kernel_rfl) (by simp) ?_
        refine AllReadyH.cons (o := ⟨some 81, _, _, _, _, _⟩) rfl (fun K hK => ?_) AllReadyH.nil
        go_simp
        (go_at_call 18; refine (K11.out _ (by first | exact HBU.out | exact Below.drew HBU.out)).mono ?_; rintro e u ⟨rfl, hbu⟩; have HBN := Lib.hid ((show Below W2.heap.size W2 _ from by first | exact HBU.out | exact Below.drew HBU.out).trans (hbu.mono HBU.out.size)); clear HBU hbu; have HBU := HBN; clear HBN)
        (try go_wp2_with fail)
        refine hK.out _ _ (HW.out _ (by first | exact HBU.out | exact Below.drew HBU.out)) (fun hHeld => ?_)
        clear hK K
        try simp only [Act.put, List.setIfInBounds_toArray, List.set_cons_zero, List.set_cons_succ]
        refine wpAnyH_take (i := 37) (oi := ⟨some 82, _, _, _, _, _⟩) (v := ?_) rfl (by kernel_rfl) (by kernel_rfl) (by kernel_rfl) (fun _ _ _ h => h) (Or.inl ⟨by rfl, ?_⟩) (by assumption) ?_
        rotate_left
        · intro w hSw; (try dsimp only at hSw); go_simp; (try with_reducible rfl)
        try simp only [Act.put, List.setIfInBounds_toArray, List.set_cons_zero, List.set_cons_succ]
        refine wpAnyH_take (i := 38) (oi := ⟨some 83, _, _, _, _, _⟩) (v := ?_) rfl (by kernel_rfl) (by kernel_rfl) (by kernel_rfl) (fun _ _ _ h => h) (Or.inl ⟨by rfl, ?_⟩) (by assumption) ?_
        rotate_left
        · intro w hSw; (try dsimp only at hSw); go_simp; (try with_reducible rfl)
        try simp only [Act.put, List.setIfInBounds_toArray, List.set_cons_zero, List.set_cons_succ]
        refine wpAnyH_take (i := 39) (oi := ⟨some 84, _, _, _, _, _⟩) (v := ?_) rfl (by kernel_rfl) (by kernel_rfl) (by kernel_rfl) (fun _ _ _ h => h) (Or.inl ⟨by rfl, ?_⟩) (by assumption) ?_
        rotate_left
        · intro w hSw; (try dsimp only at hSw); go_simp; (try with_reducible rfl)
        try simp only [Act.put, List.setIfInBounds_toArray, List.set_cons_zero, List.set_cons_succ]
        refine wpAnyH_take (i := 40) (oi := ⟨some 85, _, _, _, _, _⟩) (v := ?_) rfl (by kernel_rfl) (by kernel_rfl) (by kernel_rfl) (fun _ _ _ h => h) (Or.inl ⟨by rfl, ?_⟩) (by assumption) ?_
        rotate_left
        · intro w hSw; (try dsimp only at hSw); go_simp; (try with_reducible rfl)
        try simp only [Act.put, List.setIfInBounds_toArray, List.set_cons_zero, List.set_cons_succ]
        refine wpAnyH_take (i := 42) (oi := ⟨some 87, _, _, _, _, _⟩) (v := ?_) rfl (by kernel_rfl) (by kernel_rfl) (by kernel_rfl) (fun _ _ _ h => h) (Or.inl ⟨by rfl, ?_⟩) (by assumption) ?_
        rotate_left
        · intro w hSw; (try dsimp only at hSw); go_simp; (try with_reducible rfl)
        try simp only [Act.put, List.setIfInBounds_toArray, List.set_cons_zero, List.set_cons_succ]
        refine wpAnyH_ready (rs := [41]) (by kernel_rfl) (by simp) ?_
        refine AllReadyH.cons (o := ⟨some 86, _, _, _, _, _⟩) rfl (fun K hK => ?_) AllReadyH.nil
        go_simp
        (go_at_call 19; refine (K12.out _ (by first | exact HBU.out | exact Below.drew HBU.out)).mono ?_; rintro e u ⟨rfl, hbu⟩; have HBN := Lib.hid ((show Below W2.heap.size W2 _ from by first | exact HBU.out | exact Below.drew HBU.out).trans (hbu.mono HBU.out.size)); clear HBU hbu; have HBU := HBN; clear HBN)
        (try go_wp2_with fail)
        refine hK.out _ _ (HW.out _ (by first | exact HBU.out | exact Below.drew HBU.out)) (fun hHeld => ?_)
        clear hK K
        try simp only [Act.put, List.setIfInBounds_toArray, List.set_cons_zero, List.set_cons_succ]
        refine wpAnyH_ready (rs := [43]) (by kernel_rfl) (by simp) ?_
        refine AllReadyH.cons (o := ⟨some 88, _, _, _, _, _⟩) rfl (fun K hK => ?_) AllReadyH.nil
        go_simp
        (go_at_call 20; refine (K13.out _ (by first | exact HBU.out | exact Below.drew HBU.out)).mono ?_; rintro e u ⟨rfl, hbu⟩; have HBN := Lib.hid ((show Below W2.heap.size W2 _ from by first | exact HBU.out | exact Below.drew HBU.out).trans (hbu.mono HBU.out.size)); clear HBU hbu; have HBU := HBN; clear HBN)
        (try go_wp2_with fail)
        refine hK.out _ _ (HW.out _ (by first | exact HBU.out | exact Below.drew HBU.out)) (fun hHeld => ?_)
        clear hK K
        try simp only [Act.put, List.setIfInBounds_toArray, List.set_cons_zero, List.set_cons_succ]
        refine wpAnyH_take (i := 44) (oi := ⟨some 89, _, _, _, _, _⟩) (v := ?_) rfl (by kernel_rfl) (by kernel_rfl) (by kernel_rfl) (fun _ _ _ h => h) (Or.inl ⟨by rfl, ?_⟩) (by assumption) ?_
        rotate_left
        · intro w hSw; (try dsimp only at hSw); go_simp; (try with_reducible rfl)
        try simp only [Act.put, List.setIfInBounds_toArray, List.set_cons_zero, List.set_cons_succ]
        refine wpAnyH_take (i := 45) (oi := ⟨some 90, _, _, _, _, _⟩) (v := ?_) rfl (by kernel_rfl) (by kernel_rfl) (by kernel_rfl) (fun _ _ _ h => h) (Or.inl ⟨by rfl, ?_⟩) (by assumption) ?_
        rotate_left
        · intro w hSw; (try dsimp only at hSw); go_simp; (try with_reducible rfl)
        try simp only [Act.put, List.setIfInBounds_toArray, List.set_cons_zero, List.set_cons_succ]
        refine wpAnyH_take (i := 46) (oi := ⟨some 91, _, _, _, _, _⟩) (v := ?_) rfl (by kernel_rfl) (by kernel_rfl) (by kernel_rfl) (fun _ _ _ h => h) (Or.inl ⟨by rfl, ?_⟩) (by assumption) ?_
        rotate_left
        · intro w hSw; (try dsimp only at hSw); go_simp; (try with_reducible rfl)
        try simp only [Act.put, List.setIfInBounds_toArray, List.set_cons_zero, List.set_cons_succ]
        refine wpAnyH_take (i := 47) (oi := ⟨some 92, _, _, _, _, _⟩) (v := ?_) rfl (by kernel_rfl) (by kernel_rfl) (by kernel_rfl) (fun _ _ _ h => h) (Or.inl ⟨by rfl, ?_⟩) (by assumption) ?_
        rotate_left
        · intro w hSw; (try dsimp only at hSw); go_simp; (try with_reducible rfl)
        try simp only [Act.put, List.setIfInBounds_toArray, List.set_cons_zero, List.set_cons_succ]
        refine wpAnyH_take (i := 48) (oi := ⟨some 93, _, _, _, _, _⟩) (v := ?_) rfl (by kernel_rfl) (by kernel_rfl) (by kernel_rfl) (fun _ _ _ h => h) (Or.inl ⟨by rfl, ?_⟩) (by assumption) ?_
        rotate_left
        · intro w hSw; (try dsimp only at hSw); go_simp; (try with_reducible rfl)
        try simp only [Act.put, List.setIfInBounds_toArray, List.set_cons_zero, List.set_cons_succ]
        refine wpAnyH_take (i := 49) (oi := ⟨some 94, _, _, _, _, _⟩) (v := ?_) rfl (by kernel_rfl) (by kernel_rfl) (by kernel_rfl) (fun _ _ _ h => h) (Or.inl ⟨by rfl, ?_⟩) (by assumption) ?_
        rotate_left
        · intro w hSw; (try dsimp only at hSw); go_simp; (try with_reducible rfl)
        try simp only [Act.put, List.setIfInBounds_toArray, List.set_cons_zero, List.set_cons_succ]
        refine wpAnyH_take (i := 50) (oi := ⟨some 95, _, _, _, _, _⟩) (v := undef) rfl (by kernel_rfl) (by kernel_rfl) (by kernel_rfl) (fun _ _ _ h => h) (Or.inr ⟨by rfl, rfl⟩) (by assumption) ?_
        try simp only [Act.put, List.setIfInBounds_toArray, List.set_cons_zero, List.set_cons_succ]
        refine wpAnyH_take (i := 52) (oi := ⟨some 97, _, _, _, _, _⟩) (v := undef) rfl (by kernel_rfl) (by kernel_rfl) (by kernel_rfl) (fun _ _ _ h => h) (Or.inr ⟨by rfl, rfl⟩) (by assumption) ?_
        try simp only [Act.put, List.setIfInBounds_toArray, List.set_cons_zero, List.set_cons_succ]
        refine wpAnyH_ready (rs := [51]) (by kernel_rfl) (by simp) ?_
        refine AllReadyH.cons (o := ⟨some 96, _, _, _, _, _⟩) rfl (fun K hK => ?_) AllReadyH.nil
        go_simp
        refine hK.out _ _ (HW.out _ (by first | exact HBU.out | exact Below.drew HBU.out)) (fun hHeld => ?_)
        clear hK K
        try simp only [Act.put, List.setIfInBounds_toArray, List.set_cons_zero, List.set_cons_succ]
        refine wpAnyH_ready (rs := [53]) (by kernel_rfl) (by simp) ?_
        refine AllReadyH.cons (o := ⟨some 98, _, _, _, _, _⟩) rfl (fun K hK => ?_) AllReadyH.nil
        go_simp
        refine hK.out _ _ (HW.out _ (by first | exact HBU.out | exact Below.drew HBU.out)) (fun hHeld => ?_)
        clear hK K
        try simp only [Act.put, List.setIfInBounds_toArray, List.set_cons_zero, List.set_cons_succ]
        refine wpAnyH_take (i := 54) (oi := ⟨some 99, _, _, _, _, _⟩) (v := undef) rfl (by kernel_rfl) (by kernel_rfl) (by kernel_rfl) (fun _ _ _ h => h) (Or.inr ⟨by rfl, rfl⟩) (by assumption) ?_
        try simp only [Act.put, List.setIfInBounds_toArray, List.set_cons_zero, List.set_cons_succ]
        refine wpAnyH_take (i := 55) (oi := ⟨some 100, _, _, _, _, _⟩) (v := ?_) rfl (by kernel_rfl) (by kernel_rfl) (by kernel_rfl) (fun _ _ _ h => h) (Or.inl ⟨by rfl, ?_⟩) (by assumption) ?_
        rotate_left
        · intro w hSw; (try dsimp only at hSw); go_simp; (try with_reducible rfl)
        try simp only [Act.put, List.setIfInBounds_toArray, List.set_cons_zero, List.set_cons_succ]
        refine wpAnyH_take (i := 56) (oi := ⟨some 101, _, _, _, _, _⟩) (v := ?_) rfl (by kernel_rfl) (by kernel_rfl) (by kernel_rfl) (fun _ _ _ h => h) (Or.inl ⟨by rfl, ?_⟩) (by assumption) ?_
        rotate_left
        · intro w hSw; (try dsimp only at hSw); go_simp; (try with_reducible rfl)
        try simp only [Act.put, List.setIfInBounds_toArray, List.set_cons_zero, List.set_cons_succ]
        refine wpAnyH_take (i := 57) (oi := ⟨some 6, _, _, _, _, _⟩) (v := ?_) rfl (by kernel_rfl) (by kernel_rfl) (by kernel_rfl) (fun _ _ _ h => h) (Or.inl ⟨by rfl, ?_⟩) (by assumption) ?_
        rotate_left
        · intro w hSw; (try dsimp only at hSw); go_simp; (try with_reducible rfl)
        try simp only [Act.put, List.setIfInBounds_toArray, List.set_cons_zero, List.set_cons_succ]
        refine wpAnyH_done (by kernel_rfl) ?_ _
        refine NoPanic.normal ?_
        go_wp2_with fail
        apply bodyPost_ret
        case hr => exact results_tmp rfl _ _ _
        case hd => rfl
        case hR => exact ⟨rfl, HB.out _ HBU.out⟩
end Go.Proofs.YtcplajplbocieaaDoor
