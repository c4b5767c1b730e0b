/- gristmillref.SameProgram of the same program. No conditions. -/
import Derived.Test.YtledjcplbldokaaGreatDoorRs3
import Derived.Deep.RegionHeld3
import Derived.Deep.DrawnRows
namespace Go.Proofs.YtledjcplbldokaaGreatDoor
open Go.ChangeShapes Go.WideShapes Go.ChangeAt Go.RowKit
attribute [local go_sem ↓] Go.wp_at_zero Go.wp_at_succ

theorem sl_in {w : World} {a : Option Addr} {n m c : Nat} {P : Nat → Nat → Prop} (h : SlAt w (.slice a n c) m P) : 0 < n → ∃ b o, a = some ⟨b, o, none⟩ ∧ b < w.heap.size ∧ P b o := by
  obtain ⟨-, ao, cap, e, -, h3⟩ := h
  injection e with e1 e2 e3
  subst e1 e2
  exact h3
theorem da_parts {w : World} {x : Da} {s : ByteArray} {a1 a2 : Option Addr} {n1 c1 n2 c2 : Nat} (h : DaV w x (.agg #[.string s, .slice a1 n1 c1, .slice a2 n2 c2])) : (SlAt w (.slice a1 n1 c1) x.2.1.length fun b o => TxIn w x.2.1 b o) ∧ n2 = x.2.2.length ∧ SlAt w (.slice a2 n2 c2) n2 fun b o => CoIn w x.2.2 b o := by
  obtain ⟨_, _, _, _, _, _, e, -, h1, h2⟩ := h
  simp at e
  obtain ⟨-, ⟨rfl, rfl, rfl⟩, rfl, rfl, rfl⟩ := e
  have h3 := h2
  obtain ⟨-, _, _, g, -⟩ := h2
  injection g with _ g _
  refine ⟨h1, g, ?_⟩
  rw [← g] at h3
  exact h3
theorem de_parts {w : World} {x : De} {s : ByteArray} {v0 : Value} {op : Int} {nm : ByteArray} {num : Int} {v1 v2 v3 : Value} (h : DeV w x (.agg #[.string s, v0, .int .i64 op, .string nm, .int .i64 num, v1, v2, v3])) : (SlAt w v0 x.2.1.length fun b o => TxIn w x.2.1 b o) ∧ ExV w x.2.2 (.agg #[.int .i64 op, .string nm, .int .i64 num, v1, v2, v3]) := by
  obtain ⟨_, _, _, _, _, _, _, _, _, _, _, _, _, _, _, e, -, h1, h2⟩ := h
  simp at e
  obtain ⟨-, rfl, rfl, rfl, rfl, rfl, rfl, rfl⟩ := e
  exact ⟨h1, h2⟩
set_option maxRecDepth 100000 in
set_option maxHeartbeats 8000000 in
theorem refProgram_any (ds : List Da) (fs : List De) (v v' : Value) (w : World) (hp : PrV w ds fs v) (hp' : PrV w ds fs v') : Calls Tryz.prog 9 #[v, v'] w (Grew (.bool true) w) := by
  obtain ⟨v1, v2, rfl, h1, h2⟩ := hp
  obtain ⟨v1', v2', rfl, h1', h2'⟩ := hp'
  obtain ⟨nd, ad, cd, hnd, rfl⟩ := sl_form h1
  obtain ⟨nf, af, cf, hnf, rfl⟩ := sl_form h2
  obtain ⟨ndp, adp, cdp, hndp, rfl⟩ := sl_form h1'
  obtain ⟨nfp, afp, cfp, hnfp, rfl⟩ := sl_form h2'
  have z1 : nd = ndp := by omega
  have z2 : nf = nfp := by omega
  subst z1 z2
  have hx1 : (nd : Int) ≤ 140737488355328 := by have : ds.length ≤ 140737488355328 := h1.1; omega
  have hx2 : (nf : Int) ≤ 140737488355328 := by have : fs.length ≤ 140737488355328 := h2.1; omega
  have HND := Lib.hid hnd
  have HNF := Lib.hid hnf
  have HVD := Lib.hid (sl_in h1)
  have HVDp := Lib.hid (sl_in h1')
  have HVF := Lib.hid (sl_in h2)
  have HVFp := Lib.hid (sl_in h2')
  clear h1 h2 h1' h2' hnd hnf hndp hnfp
  have HB0 : Hid (Below w.heap.size w ((w.alloc (.cells #[.slice ad nd cd, .slice af nf cf] 25)).alloc (.cells #[.slice adp nd cdp, .slice afp nf cfp] 25))) := Lib.hid (((Below.refl _ w).alloc (Nat.le_refl _) _).alloc (by simp) _)
  have hA := box2a w #[.slice ad nd cd, .slice af nf cf] #[.slice adp nd cdp, .slice afp nf cfp] 25 25
  have hB := box2b w #[.slice ad nd cd, .slice af nf cf] #[.slice adp nd cdp, .slice afp nf cfp] 25 25
  have A0 := hA 0 (.slice ad nd cd) rfl
  have A1 := hA 1 (.slice af nf cf) rfl
  have B0 := hB 0 (.slice adp nd cdp) rfl
  have B1 := hB 1 (.slice afp nf cfp) rfl
  clear hA hB
  have HA0 := Lib.hid A0
  have HA1 := Lib.hid A1
  have HBZ := Lib.hid B0
  have HB1 := Lib.hid B1
  go_enter Tryz.func9, Tryz.ntmps9
  go_wp2_with fail
  go_loopw [5] (fun vi wr => ∃ (i : Nat), vi = .int .i64 (i : Int) ∧ i ≤ nd ∧ Hid (Below (w.heap.size + 2) ((w.alloc (.cells #[.slice ad nd cd, .slice af nf cf] 25)).alloc (.cells #[.slice adp nd cdp, .slice afp nf cfp] 25)) wr)) (fun vi _ => nd + 1 - (intOf vi).toNat)
  case atStart => exact ⟨0, rfl, by omega, Lib.hid (Below.refl _ _)⟩
  case round =>
    obtain ⟨i, rfl, hin, HK⟩ := hrel
    obtain ⟨wa, hwa⟩ : ∃ wa, wa = wr := ⟨_, rfl⟩
    subst hwa
    have HB : Hid (Below w.heap.size w wa) := Lib.hid (HB0.out.trans (HK.out.mono (by omega)))
    have k0 : wa.cell? ⟨w.heap.size, 0, none⟩ = some (.slice ad nd cd) := (HK.out.cell (p := ⟨w.heap.size, 0, none⟩) (by simp)).trans HA0.out
    have k0p : wa.cell? ⟨w.heap.size + 1, 0, none⟩ = some (.slice adp nd cdp) := (HK.out.cell (p := ⟨w.heap.size + 1, 0, none⟩) (by simp)).trans HBZ.out
    by_cases hii : (i : Int) < (nd : Int)
    · have hi0 : (0 : Int) ≤ (i : Int) := by omega
      have hi1 : i < ds.length := by have := HND.out; omega
      obtain ⟨b, o, rfl, hbw, ht⟩ := HVD.out (by omega)
      obtain ⟨b', o', rfl, hbw', ht'⟩ := HVDp.out (by omega)
      obtain ⟨n1, a1, c1, n2, a2, c2, e0, e1, e2, hv⟩ := da_first (ht.below HB.out hbw) hi1
      obtain ⟨n1p, a1p, c1p, n2p, a2p, c2p, e0p, e1p, e2p, hvp⟩ := da_first (ht'.below HB.out hbw') hi1
      obtain ⟨x, hxx⟩ : ∃ x, x = ds[i] := ⟨_, rfl⟩
      rw [← hxx] at e0 hv e0p hvp
      obtain ⟨hs1, hn2, hs2⟩ := da_parts hv
      obtain ⟨hs1p, hn2p, hs2p⟩ := da_parts hvp
      have z5 : n2 = n2p := by omega
      subst z5
      have HNC := Lib.hid hn2
      have hx2 : (n2 : Int) ≤ 140737488355328 := by have : n2 ≤ 140737488355328 := hs2.1; omega
      have HTC : Hid (0 < n2 → ∃ b o, a2 = some ⟨b, o, none⟩ ∧ b < wa.heap.size ∧ CoIn wa x.2.2 b o) := Lib.hid (sl_in hs2)
      have HTCp : Hid (0 < n2 → ∃ b o, a2p = some ⟨b, o, none⟩ ∧ b < wa.heap.size ∧ CoIn wa x.2.2 b o) := Lib.hid (sl_in hs2p)
      have e0p' := ((Below.refl _ wa).alloc (Nat.le_refl _) (.cells #[.string x.1, .slice a1 n1 c1, .slice a2 n2 c2] 45)).cell (p := ⟨b', _, none⟩) (Nat.lt_of_lt_of_le hbw' HB.out.size) |>.trans e0p
      have e1p' := ((Below.refl _ wa).alloc (Nat.le_refl _) (.cells #[.string x.1, .slice a1 n1 c1, .slice a2 n2 c2] 45)).cell (p := ⟨b', _, none⟩) (Nat.lt_of_lt_of_le hbw' HB.out.size) |>.trans e1p
      have e2p' := ((Below.refl _ wa).alloc (Nat.le_refl _) (.cells #[.string x.1, .slice a1 n1 c1, .slice a2 n2 c2] 45)).cell (p := ⟨b', _, none⟩) (Nat.lt_of_lt_of_le hbw' HB.out.size) |>.trans e2p
      have k0q := (((Below.refl _ wa).alloc (Nat.le_refl _) (.cells #[.string x.1, .slice a1 n1 c1, .slice a2 n2 c2] 45)).cell (p := ⟨w.heap.size + 1, 0, none⟩) (World.block_lt_of_cell? _ _ k0p)).trans k0p
      have hX := box2a wa #[.string x.1, .slice a1 n1 c1, .slice a2 n2 c2] #[.string x.1, .slice a1p n1p c1p, .slice a2p n2 c2p] 45 45
      have hY := box2b wa #[.string x.1, .slice a1 n1 c1, .slice a2 n2 c2] #[.string x.1, .slice a1p n1p c1p, .slice a2p n2 c2p] 45 45
      have X0 := hX 0 (.string x.1) rfl
      have X1 := hX 1 (.slice a1 n1 c1) rfl
      have X2 := hX 2 (.slice a2 n2 c2) rfl
      have Y0 := hY 0 (.string x.1) rfl
      have Y1 := hY 1 (.slice a1p n1p c1p) rfl
      have Y2 := hY 2 (.slice a2p n2 c2p) rfl
      clear hX hY
      have HBX : Hid (Below wa.heap.size wa ((wa.alloc (.cells #[.string x.1, .slice a1 n1 c1, .slice a2 n2 c2] 45)).alloc (.cells #[.string x.1, .slice a1p n1p c1p, .slice a2p n2 c2p] 45))) := Lib.hid (((Below.refl _ wa).alloc (Nat.le_refl _) _).alloc (by simp) _)
      have HX2 := Lib.hid X2
      have HY2 := Lib.hid Y2
      have HC := Lib.hid (refTexts_any x.2.1 _ _ ((wa.alloc (.cells #[.string x.1, .slice a1 n1 c1, .slice a2 n2 c2] 45)).alloc (.cells #[.string x.1, .slice a1p n1p c1p, .slice a2p n2 c2p] 45)) (hs1.mono HBX.out.size fun _ _ p q => TxIn.below HBX.out p q) (hs1p.mono HBX.out.size fun _ _ p q => TxIn.below HBX.out p q))
      have hq : (x.1.toList != x.1.toList) = false := by simp
      clear e0p e1p e2p ht ht' hv hvp hs1 hs1p hs2 hs2p hxx hi1 hn2 hn2p
      go_wp2_with fail
      refine HC.out.mono ?_
      rintro e w2 ⟨rfl, hb2⟩
      have X2 := (hb2.cell (p := ⟨wa.heap.size, 2, none⟩) (by simp <;> omega)).trans X2
      have Y2 := (hb2.cell (p := ⟨wa.heap.size + 1, 2, none⟩) (by simp)).trans Y2
      have HKX : Hid (Below (wa.heap.size + 2) ((wa.alloc (.cells #[.string x.1, .slice a1 n1 c1, .slice a2 n2 c2] 45)).alloc (.cells #[.string x.1, .slice a1p n1p c1p, .slice a2p n2 c2p] 45)) w2) := Lib.hid (hb2.mono (by simp))
      clear hb2 HC HBX
      go_wp2_with fail
      go_loopw [8] (fun vk wr => ∃ (k : Nat), vk = .int .i64 (k : Int) ∧ k ≤ n2 ∧ Hid (Below (wa.heap.size + 2) ((wa.alloc (.cells #[.string x.1, .slice a1 n1 c1, .slice a2 n2 c2] 45)).alloc (.cells #[.string x.1, .slice a1p n1p c1p, .slice a2p n2 c2p] 45)) wr)) (fun vk _ => n2 + 1 - (intOf vk).toNat)
      case atStart => exact ⟨0, rfl, by omega, HKX⟩
      case round =>
        clear HKX
        obtain ⟨k, rfl, hkn, HKX⟩ := hrel
        have HBX : Hid (Below wa.heap.size wa wr) := Lib.hid ((((Below.refl _ wa).alloc (Nat.le_refl _) _).alloc (by simp) _).trans (HKX.out.mono (by omega)))
        have z2 : wr.cell? ⟨wa.heap.size, 2, none⟩ = some (.slice a2 n2 c2) := (HKX.out.cell (p := ⟨wa.heap.size, 2, none⟩) (by simp <;> omega)).trans HX2.out
        have z2p : wr.cell? ⟨wa.heap.size + 1, 2, none⟩ = some (.slice a2p n2 c2p) := (HKX.out.cell (p := ⟨wa.heap.size + 1, 2, none⟩) (by simp <;> omega)).trans HY2.out
        by_cases hkk : (k : Int) < (n2 : Int)
        · have hk0 : (0 : Int) ≤ (k : Int) := by omega
          have hk1 : k < x.2.2.length := by have := HNC.out; omega
          obtain ⟨b2, o2, rfl, hb2w, ht2⟩ := HTC.out (by omega)
          obtain ⟨b2', o2', rfl, hb2w', ht2'⟩ := HTCp.out (by omega)
          obtain ⟨m1, q1, d1, e0, e1, hv⟩ := co_first ht2 hk1
          obtain ⟨m1p, q1p, d1p, e0p, e1p, hvp⟩ := co_first ht2' hk1
          obtain ⟨y, hyy⟩ : ∃ y, y = x.2.2[k] := ⟨_, rfl⟩
          rw [← hyy] at e0 e0p hv hvp
          have e0' := (HBX.out.cell (p := ⟨b2, _, none⟩) hb2w).trans e0
          have e1' := (HBX.out.cell (p := ⟨b2, _, none⟩) hb2w).trans e1
          have e0p' := (HBX.out.cell (p := ⟨b2', _, none⟩) hb2w').trans e0p
          have e1p' := (HBX.out.cell (p := ⟨b2', _, none⟩) hb2w').trans e1p
          have hszA : b2 < wr.heap.size := Nat.lt_of_lt_of_le hb2w HBX.out.size
          have hszB : b2' < wr.heap.size := Nat.lt_of_lt_of_le hb2w' HBX.out.size
          have hszC : wa.heap.size < wr.heap.size := World.block_lt_of_cell? _ _ z2
          have hszD : wa.heap.size + 1 < wr.heap.size := World.block_lt_of_cell? _ _ z2p
          have hq : (y.1.toList != y.1.toList) = false := by simp
          obtain ⟨_, _, _, gg, -, hgs⟩ := hv
          obtain ⟨_, _, _, ggp, -, hgsp⟩ := hvp
          simp at gg ggp
          obtain ⟨rfl, rfl, rfl⟩ := gg
          obtain ⟨rfl, rfl, rfl⟩ := ggp
          have HC : Hid (∀ w', Below wa.heap.size wa w' → Calls Tryz.prog 23 #[.slice q1 m1 d1, .slice q1p m1p d1p] w' (Grew (.bool true) w')) := Lib.hid fun w' hb => refTypes_of y.2.cost (refType_any y.2.cost) y.2 (Nat.le_refl _) _ _ w' (hgs.mono hb.size fun _ _ p q => TyIn.below hb p q) (hgsp.mono hb.size fun _ _ p q => TyIn.below hb p q)
          clear e0 e1 e0p e1p ht2 ht2' hgs hgsp hyy hk1
          go_wp2_with fail
          go_region_held3 (fun w' => w'.cell? ⟨wa.heap.size, 2, none⟩ = some (.slice (some ⟨b2, o2, none⟩) n2 c2) ∧ w'.cell? ⟨wa.heap.size + 1, 2, none⟩ = some (.slice (some ⟨b2', o2', none⟩) n2 c2p) ∧ w'.cell? ⟨b2, o2 + k * 2, none⟩ = some (.string y.1) ∧ w'.cell? ⟨b2, o2 + k * 2 + 1, none⟩ = some (.slice q1 m1 d1) ∧ w'.cell? ⟨b2', o2' + k * 2, none⟩ = some (.string y.1) ∧ w'.cell? ⟨b2', o2' + k * 2 + 1, none⟩ = some (.slice q1p m1p d1p)) (first | go_keep | (refine ⟨?_, ?_, ?_, ?_, ?_, ?_⟩ <;> (first | (rw [HB2.out.cell (p := ⟨wa.heap.size, _, none⟩) hszC]; assumption) | (rw [HB2.out.cell (p := ⟨wa.heap.size + 1, _, none⟩) hszD]; assumption) | (rw [HB2.out.cell (p := ⟨b2, _, none⟩) hszA]; assumption) | (rw [HB2.out.cell (p := ⟨b2', _, none⟩) hszB]; assumption)))) (first | (go_at_call 23; refine (HC.out _ (Below.drew HBX.out)).mono ?_; rintro e w2 ⟨rfl, hb2⟩; have HB2 : Hid (Below wr.heap.size wr w2) := Lib.hid ((Below.drew (Below.refl _ wr)).trans hb2); clear hb2))
          all_goals (
            go_wp2_with fail
            go_roundw
            case rel => exact ⟨k + 1, by go_num, by omega, Lib.hid (HKX.out.trans (HB2.out.mono (by have := HKX.out.size; simpa using this)))⟩
            case measure => simp [intOf]; omega)
        · go_wp2_with fail
          go_roundw
          case rel => exact ⟨i + 1, by go_num, by omega, Lib.hid (HK.out.trans (HBX.out.mono (by have := HK.out.size; simpa using this)))⟩
          case measure => simp [intOf]; omega
    · go_wp2_with fail
      go_loopw [9] (fun vi wr => ∃ (i : Nat), vi = .int .i64 (i : Int) ∧ i ≤ nf ∧ Hid (Below (w.heap.size + 2) ((w.alloc (.cells #[.slice ad nd cd, .slice af nf cf] 25)).alloc (.cells #[.slice adp nd cdp, .slice afp nf cfp] 25)) wr)) (fun vi _ => nf + 1 - (intOf vi).toNat)
      case atStart => exact ⟨0, rfl, by omega, HK⟩
      case round =>
        clear HK
        obtain ⟨i, rfl, hin, HK⟩ := hrel
        have HB : Hid (Below w.heap.size w wr) := Lib.hid (HB0.out.trans (HK.out.mono (by omega)))
        have k1 : wr.cell? ⟨w.heap.size, 1, none⟩ = some (.slice af nf cf) := (HK.out.cell (p := ⟨w.heap.size, 1, none⟩) (by simp)).trans HA1.out
        have k1p : wr.cell? ⟨w.heap.size + 1, 1, none⟩ = some (.slice afp nf cfp) := (HK.out.cell (p := ⟨w.heap.size + 1, 1, none⟩) (by simp)).trans HB1.out
        by_cases hii : (i : Int) < (nf : Int)
        · have hi0 : (0 : Int) ≤ (i : Int) := by omega
          have hi1 : i < fs.length := by have := HNF.out; omega
          obtain ⟨b, o, rfl, hbw, ht⟩ := HVF.out (by omega)
          obtain ⟨b', o', rfl, hbw', ht'⟩ := HVFp.out (by omega)
          obtain ⟨n0, a0, c0, op, nm, num, n1, a1, c1, n2, a2, c2, n3, a3, c3, e0, e1, e2, e3, e4, e5, e6, e7, hv⟩ := de_first ht hi1
          obtain ⟨n0p, a0p, c0p, opp, nmp, nump, n1p, a1p, c1p, n2p, a2p, c2p, n3p, a3p, c3p, e0p, e1p, e2p, e3p, e4p, e5p, e6p, e7p, hvp⟩ := de_first ht' hi1
          obtain ⟨x, hxx⟩ : ∃ x, x = fs[i] := ⟨_, rfl⟩
          rw [← hxx] at e0 hv e0p hvp
          have hbel : ∀ k, wr.cell? ⟨b, k, none⟩ = w.cell? ⟨b, k, none⟩ := fun k => HB.out.cell (p := ⟨b, k, none⟩) hbw
          have hbel' : ∀ k, wr.cell? ⟨b', k, none⟩ = w.cell? ⟨b', k, none⟩ := fun k => HB.out.cell (p := ⟨b', k, none⟩) hbw'
          have e0' := (hbel _).trans e0
          have e1' := (hbel _).trans e1
          have e2' := (hbel _).trans e2
          have e3' := (hbel _).trans e3
          have e4' := (hbel _).trans e4
          have e5' := (hbel _).trans e5
          have e6' := (hbel _).trans e6
          have e7' := (hbel _).trans e7
          have e0p' := ((Below.refl _ wr).alloc (Nat.le_refl _) (.cells #[.string x.1, .slice a0 n0 c0, .int .i64 op, .string nm, .int .i64 num, .slice a1 n1 c1, .slice a2 n2 c2, .slice a3 n3 c3] 37)).cell (p := ⟨b', _, none⟩) (Nat.lt_of_lt_of_le hbw' HB.out.size) |>.trans ((hbel' _).trans e0p)
          have e1p' := ((Below.refl _ wr).alloc (Nat.le_refl _) (.cells #[.string x.1, .slice a0 n0 c0, .int .i64 op, .string nm, .int .i64 num, .slice a1 n1 c1, .slice a2 n2 c2, .slice a3 n3 c3] 37)).cell (p := ⟨b', _, none⟩) (Nat.lt_of_lt_of_le hbw' HB.out.size) |>.trans ((hbel' _).trans e1p)
          have e2p' := ((Below.refl _ wr).alloc (Nat.le_refl _) (.cells #[.string x.1, .slice a0 n0 c0, .int .i64 op, .string nm, .int .i64 num, .slice a1 n1 c1, .slice a2 n2 c2, .slice a3 n3 c3] 37)).cell (p := ⟨b', _, none⟩) (Nat.lt_of_lt_of_le hbw' HB.out.size) |>.trans ((hbel' _).trans e2p)
          have e3p' := ((Below.refl _ wr).alloc (Nat.le_refl _) (.cells #[.string x.1, .slice a0 n0 c0, .int .i64 op, .string nm, .int .i64 num, .slice a1 n1 c1, .slice a2 n2 c2, .slice a3 n3 c3] 37)).cell (p := ⟨b', _, none⟩) (Nat.lt_of_lt_of_le hbw' HB.out.size) |>.trans ((hbel' _).trans e3p)
          have e4p' := ((Below.refl _ wr).alloc (Nat.le_refl _) (.cells #[.string x.1, .slice a0 n0 c0, .int .i64 op, .string nm, .int .i64 num, .slice a1 n1 c1, .slice a2 n2 c2, .slice a3 n3 c3] 37)).cell (p := ⟨b', _, none⟩) (Nat.lt_of_lt_of_le hbw' HB.out.size) |>.trans ((hbel' _).trans e4p)
          have e5p' := ((Below.refl _ wr).alloc (Nat.le_refl _) (.cells #[.string x.1, .slice a0 n0 c0, .int .i64 op, .string nm, .int .i64 num, .slice a1 n1 c1, .slice a2 n2 c2, .slice a3 n3 c3] 37)).cell (p := ⟨b', _, none⟩) (Nat.lt_of_lt_of_le hbw' HB.out.size) |>.trans ((hbel' _).trans e5p)
          have e6p' := ((Below.refl _ wr).alloc (Nat.le_refl _) (.cells #[.string x.1, .slice a0 n0 c0, .int .i64 op, .string nm, .int .i64 num, .slice a1 n1 c1, .slice a2 n2 c2, .slice a3 n3 c3] 37)).cell (p := ⟨b', _, none⟩) (Nat.lt_of_lt_of_le hbw' HB.out.size) |>.trans ((hbel' _).trans e6p)
          have e7p' := ((Below.refl _ wr).alloc (Nat.le_refl _) (.cells #[.string x.1, .slice a0 n0 c0, .int .i64 op, .string nm, .int .i64 num, .slice a1 n1 c1, .slice a2 n2 c2, .slice a3 n3 c3] 37)).cell (p := ⟨b', _, none⟩) (Nat.lt_of_lt_of_le hbw' HB.out.size) |>.trans ((hbel' _).trans e7p)
          have k1q := (((Below.refl _ wr).alloc (Nat.le_refl _) (.cells #[.string x.1, .slice a0 n0 c0, .int .i64 op, .string nm, .int .i64 num, .slice a1 n1 c1, .slice a2 n2 c2, .slice a3 n3 c3] 37)).cell (p := ⟨w.heap.size + 1, 1, none⟩) (World.block_lt_of_cell? _ _ k1p)).trans k1p
          have hX := box2a wr #[.string x.1, .slice a0 n0 c0, .int .i64 op, .string nm, .int .i64 num, .slice a1 n1 c1, .slice a2 n2 c2, .slice a3 n3 c3] #[.string x.1, .slice a0p n0p c0p, .int .i64 opp, .string nmp, .int .i64 nump, .slice a1p n1p c1p, .slice a2p n2p c2p, .slice a3p n3p c3p] 37 37
          have hY := box2b wr #[.string x.1, .slice a0 n0 c0, .int .i64 op, .string nm, .int .i64 num, .slice a1 n1 c1, .slice a2 n2 c2, .slice a3 n3 c3] #[.string x.1, .slice a0p n0p c0p, .int .i64 opp, .string nmp, .int .i64 nump, .slice a1p n1p c1p, .slice a2p n2p c2p, .slice a3p n3p c3p] 37 37
          have X0 := hX 0 (.string x.1) rfl
          have X1 := hX 1 (.slice a0 n0 c0) rfl
          have X2 := hX 2 (.int .i64 op) rfl
          have X3 := hX 3 (.string nm) rfl
          have X4 := hX 4 (.int .i64 num) rfl
          have X5 := hX 5 (.slice a1 n1 c1) rfl
          have X6 := hX 6 (.slice a2 n2 c2) rfl
          have X7 := hX 7 (.slice a3 n3 c3) rfl
          have Y0 := hY 0 (.string x.1) rfl
          have Y1 := hY 1 (.slice a0p n0p c0p) rfl
          have Y2 := hY 2 (.int .i64 opp) rfl
          have Y3 := hY 3 (.string nmp) rfl
          have Y4 := hY 4 (.int .i64 nump) rfl
          have Y5 := hY 5 (.slice a1p n1p c1p) rfl
          have Y6 := hY 6 (.slice a2p n2p c2p) rfl
          have Y7 := hY 7 (.slice a3p n3p c3p) rfl
          clear hX hY
          have HKA : Hid (Below (w.heap.size + 2) _ ((wr.alloc (.cells #[.string x.1, .slice a0 n0 c0, .int .i64 op, .string nm, .int .i64 num, .slice a1 n1 c1, .slice a2 n2 c2, .slice a3 n3 c3] 37)).alloc (.cells #[.string x.1, .slice a0p n0p c0p, .int .i64 opp, .string nmp, .int .i64 nump, .slice a1p n1p c1p, .slice a2p n2p c2p, .slice a3p n3p c3p] 37))) := Lib.hid ((HK.out.alloc (by have := HK.out.size; simp at this; omega) _).alloc (by have := HK.out.size; simp at this; simp; omega) _)
          have HBA : Hid (Below w.heap.size w ((wr.alloc (.cells #[.string x.1, .slice a0 n0 c0, .int .i64 op, .string nm, .int .i64 num, .slice a1 n1 c1, .slice a2 n2 c2, .slice a3 n3 c3] 37)).alloc (.cells #[.string x.1, .slice a0p n0p c0p, .int .i64 opp, .string nmp, .int .i64 nump, .slice a1p n1p c1p, .slice a2p n2p c2p, .slice a3p n3p c3p] 37))) := Lib.hid (HB0.out.trans (HKA.out.mono (by omega)))
          obtain ⟨hs1, hs2⟩ := de_parts hv
          obtain ⟨hs1p, hs2p⟩ := de_parts hvp
          have HC := Lib.hid (refTexts_any x.2.1 _ _ ((wr.alloc (.cells #[.string x.1, .slice a0 n0 c0, .int .i64 op, .string nm, .int .i64 num, .slice a1 n1 c1, .slice a2 n2 c2, .slice a3 n3 c3] 37)).alloc (.cells #[.string x.1, .slice a0p n0p c0p, .int .i64 opp, .string nmp, .int .i64 nump, .slice a1p n1p c1p, .slice a2p n2p c2p, .slice a3p n3p c3p] 37)) (hs1.mono HBA.out.size fun _ _ p q => TxIn.below HBA.out p q) (hs1p.mono HBA.out.size fun _ _ p q => TxIn.below HBA.out p q))
          have HE2 : Hid (∀ w', Below w.heap.size w w' → Calls Tryz.prog 24 #[.agg #[.int .i64 op, .string nm, .int .i64 num, .slice a1 n1 c1, .slice a2 n2 c2, .slice a3 n3 c3], .agg #[.int .i64 opp, .string nmp, .int .i64 nump, .slice a1p n1p c1p, .slice a2p n2p c2p, .slice a3p n3p c3p]] w' (Grew (.bool true) w')) := Lib.hid fun w' hb => refExpr_any x.2.2.cost x.2.2 (Nat.le_refl _) _ _ w' (hs2.below hb) (hs2p.below hb)
          have hq : (x.1.toList != x.1.toList) = false := by simp
          clear hbel hbel' e0 e1 e2 e3 e4 e5 e6 e7 e0p e1p e2p e3p e4p e5p e6p e7p ht ht' hv hvp hs1 hs1p hs2 hs2p hxx hi1
          go_wp2_with fail
          refine HC.out.mono ?_
          rintro e w2 ⟨rfl, hb2⟩
          have X2 := (hb2.cell (p := ⟨wr.heap.size, 2, none⟩) (by simp <;> omega)).trans X2
          have Y2 := (hb2.cell (p := ⟨wr.heap.size + 1, 2, none⟩) (by simp)).trans Y2
          have X3 := (hb2.cell (p := ⟨wr.heap.size, 3, none⟩) (by simp <;> omega)).trans X3
          have Y3 := (hb2.cell (p := ⟨wr.heap.size + 1, 3, none⟩) (by simp)).trans Y3
          have X4 := (hb2.cell (p := ⟨wr.heap.size, 4, none⟩) (by simp <;> omega)).trans X4
          have Y4 := (hb2.cell (p := ⟨wr.heap.size + 1, 4, none⟩) (by simp)).trans Y4
          have X5 := (hb2.cell (p := ⟨wr.heap.size, 5, none⟩) (by simp <;> omega)).trans X5
          have Y5 := (hb2.cell (p := ⟨wr.heap.size + 1, 5, none⟩) (by simp)).trans Y5
          have X6 := (hb2.cell (p := ⟨wr.heap.size, 6, none⟩) (by simp <;> omega)).trans X6
          have Y6 := (hb2.cell (p := ⟨wr.heap.size + 1, 6, none⟩) (by simp)).trans Y6
          have X7 := (hb2.cell (p := ⟨wr.heap.size, 7, none⟩) (by simp <;> omega)).trans X7
          have Y7 := (hb2.cell (p := ⟨wr.heap.size + 1, 7, none⟩) (by simp)).trans Y7
          have HK2 : Hid (Below (w.heap.size + 2) _ w2) := Lib.hid (HKA.out.trans (hb2.mono (by have := HK.out.size; simp at this; simp; omega)))
          have HC2 := Lib.hid (HE2.out w2 (HB0.out.trans (HK2.out.mono (by omega))))
          clear hb2 HC
          go_wp2_with fail
          refine HC2.out.mono ?_
          rintro e w3 ⟨rfl, hb3⟩
          have HK3 : Hid (Below (w.heap.size + 2) _ w3) := Lib.hid (HK2.out.trans (hb3.mono (by have := HK2.out.size; simpa using this)))
          clear hb3 HC2
          go_wp2_with fail
          go_roundw
          case rel => exact ⟨i + 1, by go_num, by omega, HK3⟩
          case measure => simp [intOf]; omega
        · go_wp2_with fail
          go_ret
          exact ⟨rfl, HB.out⟩
end Go.Proofs.YtledjcplbldokaaGreatDoor
