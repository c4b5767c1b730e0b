/- grin.sameFunc, Same: whether two programs are the same. Conditions: the first one's parts, its levels. -/
import Derived.Test.YtoidogfnjpmceaaDoorGe4
import Derived.Test.YtoidogfnjpmceaaDoorGw
import Derived.Deep.RegionHeld3
import Derived.Deep.DrawnRows
namespace Go.Proofs.YtoidogfnjpmceaaDoor
open Go.ChangeShapes Go.WideShapes Go.ChangeAt Go.RowKit
attribute [local go_sem ↓] Go.wp_at_zero Go.wp_at_succ

set_option maxRecDepth 100000 in
set_option maxHeartbeats 8000000 in
theorem eqlFn_any (HE : ∀ (x y : Fn) (v v' : Value) (w : World), FnV w x v → FnV w y v' → Calls Tryd.prog 43 #[v, v'] w (Grew (.bool (fnE x y)) w)) (l l' : List Fn) (v v' : Value) (w : World)
    (h : SlAt w v l.length fun b o => FnIn w l b o) (h' : SlAt w v' l'.length fun b o => FnIn w l' b o) :
    Calls Tryd.prog 42 #[v, v', .func (.func 43) #[] #[]] w (Grew (.bool (fnEq l l')) w) := by
  have HE := Lib.hid HE
  obtain ⟨hn, ao, cap, rfl, -, hs⟩ := h
  obtain ⟨hn', ao', cap', rfl, -, hs'⟩ := h'
  have HS := Lib.hid hs
  have HSp := Lib.hid hs'
  obtain ⟨n, hnn⟩ : ∃ n, n = l.length := ⟨_, rfl⟩
  obtain ⟨n', hnn'⟩ : ∃ n, n = l'.length := ⟨_, rfl⟩
  have HN := Lib.hid hnn
  have HNp := Lib.hid hnn'
  rw [← hnn] at hn HS ⊢
  rw [← hnn'] at hn' HSp ⊢
  have hx : (n : Int) ≤ 140737488355328 := by have : n ≤ 140737488355328 := hn; omega
  have hx' : (n' : Int) ≤ 140737488355328 := by have : n' ≤ 140737488355328 := hn'; omega
  obtain ⟨X, hX⟩ : ∃ X, X = fnEq l l' := ⟨_, rfl⟩
  have HX : Hid (X = fnEq (l.drop 0) (l'.drop 0)) := Lib.hid hX
  by_cases hne : n = n'
  · subst hne
    rw [← hX]
    clear hs hs' hn hn' hnn hnn' hX
    have hnn : ((n : Int) == (n : Int)) = true := by simp
    go_enter Tryd.func42, Tryd.ntmps42
    go_wp2_with fail
    go_loopw [17] (fun vi wr => ∃ (i : Nat), vi = .int .i64 (i : Int) ∧ i ≤ n ∧ Hid (Below w.heap.size w wr) ∧ Hid (X = fnEq (l.drop i) (l'.drop i))) (fun vi _ => n + 1 - (intOf vi).toNat)
    case atStart => exact ⟨0, rfl, by omega, Lib.hid (Below.refl _ _), HX⟩
    case round =>
      clear HX
      obtain ⟨i, rfl, hin, HB, HX⟩ := hrel
      by_cases hii : (i : Int) < (n : Int)
      · have hi0 : (0 : Int) ≤ (i : Int) := by omega
        have hi1 : i < l.length := by have := HN.out; omega
        have hi2 : i < l'.length := by have := HNp.out; omega
        obtain ⟨b, o, rfl, hbw, ht⟩ := HS.out (by omega)
        obtain ⟨b', o', rfl, hbw', ht'⟩ := HSp.out (by omega)
        obtain ⟨a1, n1, c1, a2, n2, c2, e0, e1, e2, hv⟩ := fn_first ht hi1
        obtain ⟨a1p, n1p, c1p, a2p, n2p, c2p, e0p, e1p, e2p, hvp⟩ := fn_first ht' hi2
        have hXX := HX.out
        rw [drop_two hi1, drop_two hi2] at hXX
        obtain ⟨x, hxx⟩ : ∃ x, x = l[i] := ⟨_, rfl⟩
        obtain ⟨y, hyy⟩ : ∃ x, x = l'[i] := ⟨_, rfl⟩
        rw [← hxx] at e0 hv hXX
        rw [← hyy] at e0p hvp hXX
        have hbel : ∀ k, wr.cell? ⟨b, k, none⟩ = w.cell? ⟨b, k, none⟩ := fun k => HB.out.cell (p := ⟨b, k, none⟩) hbw
        have hbel' : ∀ k, wr.cell? ⟨b', k, none⟩ = w.cell? ⟨b', k, none⟩ := fun k => HB.out.cell (p := ⟨b', k, none⟩) hbw'
        have e0' := (hbel _).trans e0
        have e1' := (hbel _).trans e1
        have e2' := (hbel _).trans e2
        have e0p' := ((Below.refl _ wr).alloc (Nat.le_refl _) (.cells #[.string x.nm, .slice a1 n1 c1, .slice a2 n2 c2] 42)).cell (p := ⟨b', _, none⟩) (Nat.lt_of_lt_of_le hbw' HB.out.size) |>.trans ((hbel' _).trans e0p)
        have e1p' := ((Below.refl _ wr).alloc (Nat.le_refl _) (.cells #[.string x.nm, .slice a1 n1 c1, .slice a2 n2 c2] 42)).cell (p := ⟨b', _, none⟩) (Nat.lt_of_lt_of_le hbw' HB.out.size) |>.trans ((hbel' _).trans e1p)
        have e2p' := ((Below.refl _ wr).alloc (Nat.le_refl _) (.cells #[.string x.nm, .slice a1 n1 c1, .slice a2 n2 c2] 42)).cell (p := ⟨b', _, none⟩) (Nat.lt_of_lt_of_le hbw' HB.out.size) |>.trans ((hbel' _).trans e2p)
        have HBA : Hid (Below w.heap.size w ((wr.alloc (.cells #[.string x.nm, .slice a1 n1 c1, .slice a2 n2 c2] 42)).alloc (.cells #[.string y.nm, .slice a1p n1p c1p, .slice a2p n2p c2p] 42))) := Lib.hid ((HB.out.alloc HB.out.size _).alloc (by have := HB.out.size; simp; omega) _)
        have HC := HE.out x y _ _ ((wr.alloc (.cells #[.string x.nm, .slice a1 n1 c1, .slice a2 n2 c2] 42)).alloc (.cells #[.string y.nm, .slice a1p n1p c1p, .slice a2p n2p c2p] 42)) (hv.below HBA.out) (hvp.below HBA.out)
        obtain ⟨c, hc⟩ : ∃ c, c = (fnE x y) := ⟨_, rfl⟩
        rw [← hc] at HC
        have HXX : Hid (X = (c && fnEq (l.drop (i + 1)) (l'.drop (i + 1)))) := Lib.hid (by rw [hXX, hc]; rfl)
        have HC := Lib.hid HC
        clear hbel hbel' e0 e1 e2 e0p e1p e2p ht ht' hv hvp hc hXX HX hi1 hi2 hxx hyy
        go_wp2_with fail
        refine HC.out.mono ?_
        rintro e w2 ⟨rfl, hb2⟩
        have HB2 : Hid (Below w.heap.size w w2) := Lib.hid (HBA.out.trans (hb2.mono HBA.out.size))
        clear hb2 HC
        cases c
        · have HT : Hid (X = false) := Lib.hid (by rw [HXX.out]; rfl)
          go_wp2_with fail
          go_ret
          exact ⟨by rw [HT.out]; rfl, HB2.out⟩
        · go_wp2_with fail
          go_roundw
          case rel => exact ⟨i + 1, by go_num, by omega, HB2, Lib.hid (by simpa using HXX.out)⟩
          case measure => simp [intOf]; omega
      · have HT : Hid (X = true) := Lib.hid (by rw [HX.out, List.drop_eq_nil_of_le (by have := HN.out; omega), List.drop_eq_nil_of_le (by have := HNp.out; omega)]; rfl)
        go_wp2_with fail
        go_ret
        exact ⟨by rw [HT.out]; rfl, HB.out⟩
  · have hf : fnEq l l' = false := by
      cases h : fnEq l l'
      · rfl
      · have := fnEq_len h; omega
    have hnn2 : ((n : Int) == (n' : Int)) = false := by simp; omega
    rw [hf]
    clear hs hs' hn hn' hnn hnn' hX hf HX
    go_enter Tryd.func42, Tryd.ntmps42
    go_wp2_with fail
    go_ret
    exact ⟨rfl, Below.refl _ _⟩
set_option maxRecDepth 100000 in
set_option maxHeartbeats 8000000 in
theorem sameFunc_any (x y : Fn) (v v' : Value) (w : World) (hv : FnV w x v) (hv' : FnV w y v') : Calls Tryd.prog 43 #[v, v'] w (Grew (.bool (fnE x y)) w) := by
  obtain ⟨a1, n1, c1, a2, n2, c2, rfl, hnm, hwf, hs, hk⟩ := hv
  obtain ⟨a1p, n1p, c1p, a2p, n2p, c2p, rfl, hnmp, hwfp, hsp, hkp⟩ := hv'
  obtain ⟨X, hX⟩ : ∃ X, X = fnE x y := ⟨_, rfl⟩
  have HX : Hid (X = (x.nm.toList == y.nm.toList && (txEq x.params y.params && x.steps.eq y.steps))) := Lib.hid hX
  rw [← hX]
  have HS := Lib.hid hs
  have HSp := Lib.hid hsp
  have HK := Lib.hid hk
  have HKp := Lib.hid hkp
  have HW := Lib.hid (And.intro hwf hwfp)
  clear hs hsp hX hk hkp hwf hwfp
  have HB0 : Hid (Below w.heap.size w ((w.alloc (.cells #[.string x.nm, .slice a1 n1 c1, .slice a2 n2 c2] 42)).alloc (.cells #[.string y.nm, .slice a1p n1p c1p, .slice a2p n2p c2p] 42))) := Lib.hid (((Below.refl _ w).alloc (Nat.le_refl _) _).alloc (by simp) _)
  have hA := box2a w #[.string x.nm, .slice a1 n1 c1, .slice a2 n2 c2] #[.string y.nm, .slice a1p n1p c1p, .slice a2p n2p c2p] 42 42
  have hB := box2b w #[.string x.nm, .slice a1 n1 c1, .slice a2 n2 c2] #[.string y.nm, .slice a1p n1p c1p, .slice a2p n2p c2p] 42 42
  have A0 := hA 0 (.string x.nm) rfl
  have A1 := hA 1 (.slice a1 n1 c1) rfl
  have A2 := hA 2 (.slice a2 n2 c2) rfl
  have B0 := hB 0 (.string y.nm) rfl
  have B1 := hB 1 (.slice a1p n1p c1p) rfl
  have B2 := hB 2 (.slice a2p n2p c2p) rfl
  clear hA hB
  cases hq0 : (x.nm.toList == y.nm.toList)
  · have HT : Hid (X = false) := Lib.hid (by rw [HX.out, hq0]; rfl)
    go_enter Tryd.func43, Tryd.ntmps43
    go_wp2_with fail
    go_ret
    exact ⟨by rw [HT.out]; rfl, HB0.out⟩
  · have HC1 := txEqual_any x.params y.params _ _ ((w.alloc (.cells #[.string x.nm, .slice a1 n1 c1, .slice a2 n2 c2] 42)).alloc (.cells #[.string y.nm, .slice a1p n1p c1p, .slice a2p n2p c2p] 42)) (HS.out.mono HB0.out.size fun _ _ p q => TxIn.below HB0.out p q) (HSp.out.mono HB0.out.size fun _ _ p q => TxIn.below HB0.out p q)
    obtain ⟨x1, hx1⟩ : ∃ zz, zz = (txEq x.params y.params) := ⟨_, rfl⟩
    rw [← hx1] at HC1
    have HC1 := Lib.hid HC1
    have HX1 := Lib.hid hx1
    clear hx1
    go_enter Tryd.func43, Tryd.ntmps43
    go_wp2_with fail
    refine HC1.out.mono ?_
    rintro e u1 ⟨rfl, hb1⟩
    have A0 := (hb1.cell (p := ⟨w.heap.size, 0, none⟩) (by have := HB0.out.size; first | (simp; done) | (have := World.block_lt_of_cell? _ _ A0; exact this))).trans A0
    have A1 := (hb1.cell (p := ⟨w.heap.size, 1, none⟩) (by have := HB0.out.size; first | (simp; done) | (have := World.block_lt_of_cell? _ _ A1; exact this))).trans A1
    have A2 := (hb1.cell (p := ⟨w.heap.size, 2, none⟩) (by have := HB0.out.size; first | (simp; done) | (have := World.block_lt_of_cell? _ _ A2; exact this))).trans A2
    have B0 := (hb1.cell (p := ⟨w.heap.size + 1, 0, none⟩) (by have := HB0.out.size; first | (simp; done) | (have := World.block_lt_of_cell? _ _ B0; exact this))).trans B0
    have B1 := (hb1.cell (p := ⟨w.heap.size + 1, 1, none⟩) (by have := HB0.out.size; first | (simp; done) | (have := World.block_lt_of_cell? _ _ B1; exact this))).trans B1
    have B2 := (hb1.cell (p := ⟨w.heap.size + 1, 2, none⟩) (by have := HB0.out.size; first | (simp; done) | (have := World.block_lt_of_cell? _ _ B2; exact this))).trans B2
    have HB2 : Hid (Below w.heap.size w u1) := Lib.hid (HB0.out.trans (hb1.mono HB0.out.size))
    clear hb1 HC1
    cases x1
    · have hq1 : (txEq x.params y.params) = false := HX1.out.symm
      have HT : Hid (X = false) := Lib.hid (by rw [HX.out, hq0, hq1]; rfl)
      clear hq1
      go_wp2_with fail
      go_ret
      exact ⟨by rw [HT.out]; rfl, HB2.out⟩
    · have HQ1 : Hid ((txEq x.params y.params) = true) := Lib.hid HX1.out.symm
      have HC2 := eqfSt_any x.steps.cost (sameStep_any x.steps.cost) x.steps y.steps (Nat.le_refl _) HW.out.1 HW.out.2 _ _ u1 (HK.out.mono HB2.out.size fun _ _ p q => StIn.below HB2.out p q) (HKp.out.mono HB2.out.size fun _ _ p q => StIn.below HB2.out p q)
      obtain ⟨x2, hx2⟩ : ∃ zz, zz = (x.steps.eq y.steps) := ⟨_, rfl⟩
      rw [← hx2] at HC2
      have HC2 := Lib.hid HC2
      have HX2 := Lib.hid hx2
      clear hx2
      go_wp2_with fail
      refine HC2.out.mono ?_
      rintro e u2 ⟨rfl, hb2⟩
      have A0 := (hb2.cell (p := ⟨w.heap.size, 0, none⟩) (by have := HB2.out.size; first | (simp; done) | (have := World.block_lt_of_cell? _ _ A0; exact this))).trans A0
      have A1 := (hb2.cell (p := ⟨w.heap.size, 1, none⟩) (by have := HB2.out.size; first | (simp; done) | (have := World.block_lt_of_cell? _ _ A1; exact this))).trans A1
      have A2 := (hb2.cell (p := ⟨w.heap.size, 2, none⟩) (by have := HB2.out.size; first | (simp; done) | (have := World.block_lt_of_cell? _ _ A2; exact this))).trans A2
      have B0 := (hb2.cell (p := ⟨w.heap.size + 1, 0, none⟩) (by have := HB2.out.size; first | (simp; done) | (have := World.block_lt_of_cell? _ _ B0; exact this))).trans B0
      have B1 := (hb2.cell (p := ⟨w.heap.size + 1, 1, none⟩) (by have := HB2.out.size; first | (simp; done) | (have := World.block_lt_of_cell? _ _ B1; exact this))).trans B1
      have B2 := (hb2.cell (p := ⟨w.heap.size + 1, 2, none⟩) (by have := HB2.out.size; first | (simp; done) | (have := World.block_lt_of_cell? _ _ B2; exact this))).trans B2
      have HB3 : Hid (Below w.heap.size w u2) := Lib.hid (HB2.out.trans (hb2.mono HB2.out.size))
      clear hb2 HC2
      cases x2
      · have hq2 : (x.steps.eq y.steps) = false := HX2.out.symm
        have HT : Hid (X = false) := Lib.hid (by rw [HX.out, hq0, HQ1.out, hq2]; rfl)
        clear hq2
        go_wp2_with fail
        go_ret
        exact ⟨by rw [HT.out]; rfl, HB3.out⟩
      · have HQ2 : Hid ((x.steps.eq y.steps) = true) := Lib.hid HX2.out.symm
        have HT : Hid (X = true) := Lib.hid (by rw [HX.out, hq0, HQ1.out, HQ2.out]; rfl)
        go_wp2_with fail
        go_ret
        exact ⟨by rw [HT.out]; rfl, HB3.out⟩
set_option maxRecDepth 100000 in
set_option maxHeartbeats 8000000 in
theorem Same_any (fs fs' : List Fn) (v v' : Value) (w : World) (h : SlAt w v fs.length fun b o => FnIn w fs b o) (h' : SlAt w v' fs'.length fun b o => FnIn w fs' b o) (hm : stCost fs ≤ 1000000) (ht : ∀ j (h : j < fs.length), fs[j].steps.tall + 1 ≤ 131072) :
    Calls Tryd.prog 20 #[.agg #[v], .agg #[v']] w (Grew (.bool (fnEq fs fs')) w) := by
  obtain ⟨n1, a1, c1, hn1, rfl⟩ := slv_form h
  obtain ⟨n1p, a1p, c1p, -, rfl⟩ := slv_form h'
  obtain ⟨X, hX⟩ : ∃ X, X = fnEq fs fs' := ⟨_, rfl⟩
  obtain ⟨bt, hbt⟩ : ∃ b : Bool, b = true := ⟨_, rfl⟩
  have HX : Hid (X = (bt && fnEq fs fs')) := Lib.hid (by rw [hbt, hX]; rfl)
  have HBT := Lib.hid hbt
  rw [← hX]
  have HD := Lib.hid h
  have HDp := Lib.hid h'
  have HM := Lib.hid (And.intro hm ht)
  clear h h' hX hm ht hn1 hbt
  have HB0 : Hid (Below w.heap.size w ((w.alloc (.cells #[.slice a1 n1 c1] 48)).alloc (.cells #[.slice a1p n1p c1p] 48))) := Lib.hid (((Below.refl _ w).alloc (Nat.le_refl _) _).alloc (by simp) _)
  have hA := box2a w #[.slice a1 n1 c1] #[.slice a1p n1p c1p] 48 48
  have hB := box2b w #[.slice a1 n1 c1] #[.slice a1p n1p c1p] 48 48
  have A0 := hA 0 (.slice a1 n1 c1) rfl
  have B0 := hB 0 (.slice a1p n1p c1p) rfl
  clear hA hB
  have HC0 := (show Calls Tryd.prog 39 #[.slice a1 n1 c1] (((w.alloc (.cells #[.slice a1 n1 c1] 48)).alloc (.cells #[.slice a1p n1p c1p] 48))) (Grew (.bool bt) (((w.alloc (.cells #[.slice a1 n1 c1] 48)).alloc (.cells #[.slice a1p n1p c1p] 48)))) from by rw [HBT.out]; exact isBounded_any fs _ _ (HD.out.mono HB0.out.size fun _ _ p q => FnIn.below HB0.out p q) HM.out.1 HM.out.2)
  obtain ⟨x0, hx0⟩ : ∃ zz, zz = (bt) := ⟨_, rfl⟩
  rw [← hx0] at HC0
  have HC0 := Lib.hid HC0
  have HX0 := Lib.hid hx0
  clear hx0
  go_enter Tryd.func20, Tryd.ntmps20
  go_wp2_with fail
  refine HC0.out.mono ?_
  rintro e u0 ⟨rfl, hb0⟩
  have A0 := (hb0.cell (p := ⟨w.heap.size, 0, none⟩) (by have := HB0.out.size; first | (simp; done) | (have := World.block_lt_of_cell? _ _ A0; exact this))).trans A0
  have B0 := (hb0.cell (p := ⟨w.heap.size + 1, 0, none⟩) (by have := HB0.out.size; first | (simp; done) | (have := World.block_lt_of_cell? _ _ B0; exact this))).trans B0
  have HB1 : Hid (Below w.heap.size w u0) := Lib.hid (HB0.out.trans (hb0.mono HB0.out.size))
  clear hb0 HC0
  cases x0
  · have hq0 : (bt) = false := HX0.out.symm
    have HT : Hid (X = false) := Lib.hid (by rw [HX.out, hq0]; rfl)
    clear hq0
    go_wp2_with fail
    go_ret
    exact ⟨by rw [HT.out]; rfl, HB1.out⟩
  · have HQ0 : Hid ((bt) = true) := Lib.hid HX0.out.symm
    have HC1 := eqlFn_any sameFunc_any fs fs' _ _ u0 (HD.out.mono HB1.out.size fun _ _ p q => FnIn.below HB1.out p q) (HDp.out.mono HB1.out.size fun _ _ p q => FnIn.below HB1.out p q)
    obtain ⟨x1, hx1⟩ : ∃ zz, zz = (fnEq fs fs') := ⟨_, rfl⟩
    rw [← hx1] at HC1
    have HC1 := Lib.hid HC1
    have HX1 := Lib.hid hx1
    clear hx1
    go_wp2_with fail
    refine HC1.out.mono ?_
    rintro e u1 ⟨rfl, hb1⟩
    have A0 := (hb1.cell (p := ⟨w.heap.size, 0, none⟩) (by have := HB1.out.size; first | (simp; done) | (have := World.block_lt_of_cell? _ _ A0; exact this))).trans A0
    have B0 := (hb1.cell (p := ⟨w.heap.size + 1, 0, none⟩) (by have := HB1.out.size; first | (simp; done) | (have := World.block_lt_of_cell? _ _ B0; exact this))).trans B0
    have HB2 : Hid (Below w.heap.size w u1) := Lib.hid (HB1.out.trans (hb1.mono HB1.out.size))
    clear hb1 HC1
    cases x1
    · have hq1 : (fnEq fs fs') = false := HX1.out.symm
      have HT : Hid (X = false) := Lib.hid (by rw [HX.out, HQ0.out, hq1]; rfl)
      clear hq1
      go_wp2_with fail
      go_ret
      exact ⟨by rw [HT.out]; rfl, HB2.out⟩
    · have HQ1 : Hid ((fnEq fs fs') = true) := Lib.hid HX1.out.symm
      have HT : Hid (X = true) := Lib.hid (by rw [HX.out, HQ0.out, HQ1.out]; rfl)
      go_wp2_with fail
      go_ret
      exact ⟨by rw [HT.out]; rfl, HB2.out⟩
end Go.Proofs.YtoidogfnjpmceaaDoor
