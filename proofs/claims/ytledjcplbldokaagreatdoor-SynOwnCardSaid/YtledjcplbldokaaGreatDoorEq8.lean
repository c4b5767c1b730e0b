/- Values that are a constructor, a data, a definition. No conditions. -/
import Derived.Test.YtledjcplbldokaaGreatDoorEq7
import Derived.Test.YtledjcplbldokaaGreatDoorEq6
import Derived.Deep.RegionHeld3
import Derived.Deep.DrawnRows
namespace Go.Proofs.YtledjcplbldokaaGreatDoor
open Go.ChangeShapes Go.WideShapes Go.ChangeAt Go.RowKit
attribute [local go_sem ↓] Go.wp_at_zero Go.wp_at_succ


def CoV (w : World) (x : Co) (v : Value) : Prop := ∃ n1 a1 c1, v = .agg #[.string x.1, .slice a1 n1 c1] ∧ x.1.size ≤ reach ∧ SlAt w (.slice a1 n1 c1) x.2.len fun b o => TyIn w x.2 b o 0
def DaV (w : World) (x : Da) (v : Value) : Prop := ∃ n1 a1 c1 n2 a2 c2, v = .agg #[.string x.1, .slice a1 n1 c1, .slice a2 n2 c2] ∧ x.1.size ≤ reach ∧ (SlAt w (.slice a1 n1 c1) x.2.1.length fun b o => TxIn w x.2.1 b o) ∧ SlAt w (.slice a2 n2 c2) x.2.2.length fun b o => CoIn w x.2.2 b o
def DeV (w : World) (x : De) (v : Value) : Prop := ∃ n0 a0 c0 op nm num n1 a1 c1 n2 a2 c2 n3 a3 c3, v = .agg #[.string x.1, .slice a0 n0 c0, .int .i64 op, .string nm, .int .i64 num, .slice a1 n1 c1, .slice a2 n2 c2, .slice a3 n3 c3] ∧ x.1.size ≤ reach ∧ (SlAt w (.slice a0 n0 c0) x.2.1.length fun b o => TxIn w x.2.1 b o) ∧ ExV w x.2.2 (.agg #[.int .i64 op, .string nm, .int .i64 num, .slice a1 n1 c1, .slice a2 n2 c2, .slice a3 n3 c3])
theorem CoV.below {w w' : World} (hb : Below w.heap.size w w') {x : Co} {v : Value} (h : CoV w x v) : CoV w' x v := by
  obtain ⟨n1, a1, c1, h1, h2, h3⟩ := h
  exact ⟨n1, a1, c1, h1, h2, h3.mono hb.size fun _ _ p q => TyIn.below hb p q⟩
theorem DaV.below {w w' : World} (hb : Below w.heap.size w w') {x : Da} {v : Value} (h : DaV w x v) : DaV w' x v := by
  obtain ⟨n1, a1, c1, n2, a2, c2, h1, h2, h3, h4⟩ := h
  exact ⟨n1, a1, c1, n2, a2, c2, h1, h2, h3.mono hb.size fun _ _ p q => TxIn.below hb p q, h4.mono hb.size fun _ _ p q => CoIn.below hb p q⟩
theorem DeV.below {w w' : World} (hb : Below w.heap.size w w') {x : De} {v : Value} (h : DeV w x v) : DeV w' x v := by
  obtain ⟨n0, a0, c0, op, nm, num, n1, a1, c1, n2, a2, c2, n3, a3, c3, h1, h2, h3, h4⟩ := h
  exact ⟨n0, a0, c0, op, nm, num, n1, a1, c1, n2, a2, c2, n3, a3, c3, h1, h2, h3.mono hb.size fun _ _ p q => TxIn.below hb p q, h4.below hb⟩
theorem co_first {w : World} {l : List Co} {b o i : Nat} (h : CoIn w l b o) (hi : i < l.length) : ∃ n1 a1 c1, w.cell? ⟨b, o + i * 2, none⟩ = some (.string l[i].1) ∧ w.cell? ⟨b, o + i * 2 + 1, none⟩ = some (.slice a1 n1 c1) ∧ CoV w l[i] (.agg #[.string l[i].1, .slice a1 n1 c1]) := by
  obtain ⟨h1, h2, v, h3, h4⟩ := h i hi
  obtain ⟨n, a, c, -, rfl⟩ := sl_form h4
  exact ⟨n, a, c, h1, h3, ⟨n, a, c, rfl, h2, h4⟩⟩
theorem da_first {w : World} {l : List Da} {b o i : Nat} (h : DaIn w l b o) (hi : i < l.length) : ∃ n1 a1 c1 n2 a2 c2, w.cell? ⟨b, o + i * 3, none⟩ = some (.string l[i].1) ∧ w.cell? ⟨b, o + i * 3 + 1, none⟩ = some (.slice a1 n1 c1) ∧ w.cell? ⟨b, o + i * 3 + 2, none⟩ = some (.slice a2 n2 c2) ∧ DaV w l[i] (.agg #[.string l[i].1, .slice a1 n1 c1, .slice a2 n2 c2]) := by
  obtain ⟨h1, h2, ⟨v, h3, h4⟩, u, h5, h6⟩ := h i hi
  obtain ⟨n, a, c, -, rfl⟩ := sl_form h4
  obtain ⟨n2, a2, c2, -, rfl⟩ := sl_form h6
  exact ⟨n, a, c, n2, a2, c2, h1, h3, h5, ⟨n, a, c, n2, a2, c2, rfl, h2, h4, h6⟩⟩
theorem de_first {w : World} {l : List De} {b o i : Nat} (h : DeIn w l b o) (hi : i < l.length) : ∃ n0 a0 c0 op nm num n1 a1 c1 n2 a2 c2 n3 a3 c3, w.cell? ⟨b, o + i * 8, none⟩ = some (.string l[i].1) ∧ w.cell? ⟨b, o + i * 8 + 1, none⟩ = some (.slice a0 n0 c0) ∧ w.cell? ⟨b, o + i * 8 + 2, none⟩ = some (.int .i64 op) ∧ w.cell? ⟨b, o + i * 8 + 3, none⟩ = some (.string nm) ∧ w.cell? ⟨b, o + i * 8 + 4, none⟩ = some (.int .i64 num) ∧ w.cell? ⟨b, o + i * 8 + 5, none⟩ = some (.slice a1 n1 c1) ∧ w.cell? ⟨b, o + i * 8 + 6, none⟩ = some (.slice a2 n2 c2) ∧ w.cell? ⟨b, o + i * 8 + 7, none⟩ = some (.slice a3 n3 c3) ∧
    DeV w l[i] (.agg #[.string l[i].1, .slice a0 n0 c0, .int .i64 op, .string nm, .int .i64 num, .slice a1 n1 c1, .slice a2 n2 c2, .slice a3 n3 c3]) := by
  obtain ⟨h1, h2, ⟨v1, h3, h4⟩, h5, h6, h7⟩ := h i hi
  obtain ⟨op, nm, num, names, L, alts, he⟩ := one_expr h5 h6
  obtain ⟨n0, a0, c0, -, rfl⟩ := sl_form h4
  have h8 := h7
  rw [he] at h5 h8
  obtain ⟨n1, a1, c1, n2, a2, c2, n3, a3, c3, e0, e1, e2, e3, e4, e5, e6, -⟩ := ex_first h5 h8
  simp only [Nat.zero_mul, Nat.add_zero] at e0 e1 e2 e3 e4 e5
  exact ⟨n0, a0, c0, op, nm, num, n1, a1, c1, n2, a2, c2, n3, a3, c3, h1, h3, e0, e1, e2, e3, e4, e5, ⟨n0, a0, c0, op, nm, num, n1, a1, c1, n2, a2, c2, n3, a3, c3, rfl, h2, h4, by rw [he]; exact e6⟩⟩
set_option maxRecDepth 100000 in
set_option maxHeartbeats 8000000 in
theorem eqlCo_any (HE : ∀ (x y : Co) (v v' : Value) (w : World), CoV w x v → CoV w y v' → Calls Tryz.prog 40 #[v, v'] w (Grew (.bool (x.1.toList == y.1.toList && x.2.eq y.2)) w)) (l l' : List Co) (v v' : Value) (w : World)
    (h : SlAt w v l.length fun b o => CoIn w l b o) (h' : SlAt w v' l'.length fun b o => CoIn w l' b o) :
    Calls Tryz.prog 39 #[v, v', .func (.func 40) #[] #[]] w (Grew (.bool (coEq l l')) w) := by
  have HE := Lib.hid HE
  obtain ⟨hn, ao, cap, rfl, -, hs⟩ := h
  obtain ⟨hn', ao', cap', rfl, -, hs'⟩ := h'
  have HS := Lib.hid hs
  have HSp := Lib.hid hs'
  obtain ⟨n, hnn⟩ : ∃ n, n = l.length := ⟨_, rfl⟩
  obtain ⟨n', hnn'⟩ : ∃ n, n = l'.length := ⟨_, rfl⟩
  have HN := Lib.hid hnn
  have HNp := Lib.hid hnn'
  rw [← hnn] at hn HS ⊢
  rw [← hnn'] at hn' HSp ⊢
  have hx : (n : Int) ≤ 140737488355328 := by have : n ≤ 140737488355328 := hn; omega
  have hx' : (n' : Int) ≤ 140737488355328 := by have : n' ≤ 140737488355328 := hn'; omega
  obtain ⟨X, hX⟩ : ∃ X, X = coEq l l' := ⟨_, rfl⟩
  have HX : Hid (X = coEq (l.drop 0) (l'.drop 0)) := Lib.hid hX
  by_cases hne : n = n'
  · subst hne
    rw [← hX]
    clear hs hs' hn hn' hnn hnn' hX
    have hnn : ((n : Int) == (n : Int)) = true := by simp
    go_enter Tryz.func39, Tryz.ntmps39
    go_wp2_with fail
    go_loopw [17] (fun vi wr => ∃ (i : Nat), vi = .int .i64 (i : Int) ∧ i ≤ n ∧ Hid (Below w.heap.size w wr) ∧ Hid (X = coEq (l.drop i) (l'.drop i))) (fun vi _ => n + 1 - (intOf vi).toNat)
    case atStart => exact ⟨0, rfl, by omega, Lib.hid (Below.refl _ _), HX⟩
    case round =>
      clear HX
      obtain ⟨i, rfl, hin, HB, HX⟩ := hrel
      by_cases hii : (i : Int) < (n : Int)
      · have hi0 : (0 : Int) ≤ (i : Int) := by omega
        have hi1 : i < l.length := by have := HN.out; omega
        have hi2 : i < l'.length := by have := HNp.out; omega
        obtain ⟨b, o, rfl, hbw, ht⟩ := HS.out (by omega)
        obtain ⟨b', o', rfl, hbw', ht'⟩ := HSp.out (by omega)
        obtain ⟨n1, a1, c1, e0, e1, hv⟩ := co_first ht hi1
        obtain ⟨n1p, a1p, c1p, e0p, e1p, hvp⟩ := co_first ht' hi2
        have hXX := HX.out
        rw [drop_two hi1, drop_two hi2] at hXX
        obtain ⟨x, hxx⟩ : ∃ x, x = l[i] := ⟨_, rfl⟩
        obtain ⟨y, hyy⟩ : ∃ x, x = l'[i] := ⟨_, rfl⟩
        rw [← hxx] at e0 hv hXX
        rw [← hyy] at e0p hvp hXX
        have hbel : ∀ k, wr.cell? ⟨b, k, none⟩ = w.cell? ⟨b, k, none⟩ := fun k => HB.out.cell (p := ⟨b, k, none⟩) hbw
        have hbel' : ∀ k, wr.cell? ⟨b', k, none⟩ = w.cell? ⟨b', k, none⟩ := fun k => HB.out.cell (p := ⟨b', k, none⟩) hbw'
        have e0' := (hbel _).trans e0
        have e1' := (hbel _).trans e1
        have e0p' := ((Below.refl _ wr).alloc (Nat.le_refl _) (.cells #[.string x.1, .slice a1 n1 c1] 48)).cell (p := ⟨b', _, none⟩) (Nat.lt_of_lt_of_le hbw' HB.out.size) |>.trans ((hbel' _).trans e0p)
        have e1p' := ((Below.refl _ wr).alloc (Nat.le_refl _) (.cells #[.string x.1, .slice a1 n1 c1] 48)).cell (p := ⟨b', _, none⟩) (Nat.lt_of_lt_of_le hbw' HB.out.size) |>.trans ((hbel' _).trans e1p)
        have HBA : Hid (Below w.heap.size w ((wr.alloc (.cells #[.string x.1, .slice a1 n1 c1] 48)).alloc (.cells #[.string y.1, .slice a1p n1p c1p] 48))) := Lib.hid ((HB.out.alloc HB.out.size _).alloc (by have := HB.out.size; simp; omega) _)
        have HC := HE.out x y _ _ ((wr.alloc (.cells #[.string x.1, .slice a1 n1 c1] 48)).alloc (.cells #[.string y.1, .slice a1p n1p c1p] 48)) (hv.below HBA.out) (hvp.below HBA.out)
        obtain ⟨c, hc⟩ : ∃ c, c = (x.1.toList == y.1.toList && x.2.eq y.2) := ⟨_, rfl⟩
        rw [← hc] at HC
        have HXX : Hid (X = (c && coEq (l.drop (i + 1)) (l'.drop (i + 1)))) := Lib.hid (by rw [hXX, hc]; rfl)
        have HC := Lib.hid HC
        clear hbel hbel' e0 e1 e0p e1p ht ht' hv hvp hc hXX HX hi1 hi2 hxx hyy
        go_wp2_with fail
        refine HC.out.mono ?_
        rintro e w2 ⟨rfl, hb2⟩
        have HB2 : Hid (Below w.heap.size w w2) := Lib.hid (HBA.out.trans (hb2.mono HBA.out.size))
        clear hb2 HC
        cases c
        · have HT : Hid (X = false) := Lib.hid (by rw [HXX.out]; rfl)
          go_wp2_with fail
          go_ret
          exact ⟨by rw [HT.out]; rfl, HB2.out⟩
        · go_wp2_with fail
          go_roundw
          case rel => exact ⟨i + 1, by go_num, by omega, HB2, Lib.hid (by simpa using HXX.out)⟩
          case measure => simp [intOf]; omega
      · have HT : Hid (X = true) := Lib.hid (by rw [HX.out, List.drop_eq_nil_of_le (by have := HN.out; omega), List.drop_eq_nil_of_le (by have := HNp.out; omega)]; rfl)
        go_wp2_with fail
        go_ret
        exact ⟨by rw [HT.out]; rfl, HB.out⟩
  · have hf : coEq l l' = false := by
      cases h : coEq l l'
      · rfl
      · have := coEq_len h; omega
    have hnn2 : ((n : Int) == (n' : Int)) = false := by simp; omega
    rw [hf]
    clear hs hs' hn hn' hnn hnn' hX hf HX
    go_enter Tryz.func39, Tryz.ntmps39
    go_wp2_with fail
    go_ret
    exact ⟨rfl, Below.refl _ _⟩
set_option maxRecDepth 100000 in
set_option maxHeartbeats 8000000 in
theorem sameCons_any (x y : Co) (v v' : Value) (w : World) (hv : CoV w x v) (hv' : CoV w y v') : Calls Tryz.prog 40 #[v, v'] w (Grew (.bool (x.1.toList == y.1.toList && x.2.eq y.2)) w) := by
  obtain ⟨n1, a1, c1, rfl, hnm, hs⟩ := hv
  obtain ⟨n1p, a1p, c1p, rfl, hnmp, hsp⟩ := hv'
  obtain ⟨X, hX⟩ : ∃ X, X = (x.1.toList == y.1.toList && x.2.eq y.2) := ⟨_, rfl⟩
  have HX := Lib.hid hX
  rw [← hX]
  have HS := Lib.hid hs
  have HSp := Lib.hid hsp
  clear hs hsp hX
  have HB0 : Hid (Below w.heap.size w ((w.alloc (.cells #[.string x.1, .slice a1 n1 c1] 48)).alloc (.cells #[.string y.1, .slice a1p n1p c1p] 48))) := Lib.hid (((Below.refl _ w).alloc (Nat.le_refl _) _).alloc (by simp) _)
  have hA := box2a w #[.string x.1, .slice a1 n1 c1] #[.string y.1, .slice a1p n1p c1p] 48 48
  have hB := box2b w #[.string x.1, .slice a1 n1 c1] #[.string y.1, .slice a1p n1p c1p] 48 48
  have A0 := hA 0 (.string x.1) rfl
  have A1 := hA 1 (.slice a1 n1 c1) rfl
  have B0 := hB 0 (.string y.1) rfl
  have B1 := hB 1 (.slice a1p n1p c1p) rfl
  clear hA hB
  cases hq0 : (x.1.toList == y.1.toList)
  · have HT : Hid (X = false) := Lib.hid (by rw [HX.out, hq0]; rfl)
    go_enter Tryz.func40, Tryz.ntmps40
    go_wp2_with fail
    go_ret
    exact ⟨by rw [HT.out]; rfl, HB0.out⟩
  · have HC1 := eqfTy_any x.2.cost (sameType_any x.2.cost) x.2 y.2 (Nat.le_refl _) _ _ ((w.alloc (.cells #[.string x.1, .slice a1 n1 c1] 48)).alloc (.cells #[.string y.1, .slice a1p n1p c1p] 48)) (HS.out.mono HB0.out.size fun _ _ p q => TyIn.below HB0.out p q) (HSp.out.mono HB0.out.size fun _ _ p q => TyIn.below HB0.out p q)
    obtain ⟨x1, hx1⟩ : ∃ zz, zz = (x.2.eq y.2) := ⟨_, rfl⟩
    rw [← hx1] at HC1
    have HC1 := Lib.hid HC1
    have HX1 := Lib.hid hx1
    clear hx1
    go_enter Tryz.func40, Tryz.ntmps40
    go_wp2_with fail
    refine HC1.out.mono ?_
    rintro e u1 ⟨rfl, hb1⟩
    have A0 := (hb1.cell (p := ⟨w.heap.size, 0, none⟩) (by have := HB0.out.size; first | (simp; done) | (have := World.block_lt_of_cell? _ _ A0; exact this))).trans A0
    have A1 := (hb1.cell (p := ⟨w.heap.size, 1, none⟩) (by have := HB0.out.size; first | (simp; done) | (have := World.block_lt_of_cell? _ _ A1; exact this))).trans A1
    have B0 := (hb1.cell (p := ⟨w.heap.size + 1, 0, none⟩) (by have := HB0.out.size; first | (simp; done) | (have := World.block_lt_of_cell? _ _ B0; exact this))).trans B0
    have B1 := (hb1.cell (p := ⟨w.heap.size + 1, 1, none⟩) (by have := HB0.out.size; first | (simp; done) | (have := World.block_lt_of_cell? _ _ B1; exact this))).trans B1
    have HB2 : Hid (Below w.heap.size w u1) := Lib.hid (HB0.out.trans (hb1.mono HB0.out.size))
    clear hb1 HC1
    cases x1
    · have hq1 : (x.2.eq y.2) = false := HX1.out.symm
      have HT : Hid (X = false) := Lib.hid (by rw [HX.out, hq0, hq1]; rfl)
      clear hq1
      go_wp2_with fail
      go_ret
      exact ⟨by rw [HT.out]; rfl, HB2.out⟩
    · have HQ1 : Hid ((x.2.eq y.2) = true) := Lib.hid HX1.out.symm
      have HT : Hid (X = true) := Lib.hid (by rw [HX.out, hq0, HQ1.out]; rfl)
      go_wp2_with fail
      go_ret
      exact ⟨by rw [HT.out]; rfl, HB2.out⟩
set_option maxRecDepth 100000 in
set_option maxHeartbeats 8000000 in
theorem eqlDa_any (HE : ∀ (x y : Da) (v v' : Value) (w : World), DaV w x v → DaV w y v' → Calls Tryz.prog 19 #[v, v'] w (Grew (.bool (x.1.toList == y.1.toList && (txEq x.2.1 y.2.1 && coEq x.2.2 y.2.2))) w)) (l l' : List Da) (v v' : Value) (w : World)
    (h : SlAt w v l.length fun b o => DaIn w l b o) (h' : SlAt w v' l'.length fun b o => DaIn w l' b o) :
    Calls Tryz.prog 18 #[v, v', .func (.func 19) #[] #[]] w (Grew (.bool (daEq l l')) w) := by
  have HE := Lib.hid HE
  obtain ⟨hn, ao, cap, rfl, -, hs⟩ := h
  obtain ⟨hn', ao', cap', rfl, -, hs'⟩ := h'
  have HS := Lib.hid hs
  have HSp := Lib.hid hs'
  obtain ⟨n, hnn⟩ : ∃ n, n = l.length := ⟨_, rfl⟩
  obtain ⟨n', hnn'⟩ : ∃ n, n = l'.length := ⟨_, rfl⟩
  have HN := Lib.hid hnn
  have HNp := Lib.hid hnn'
  rw [← hnn] at hn HS ⊢
  rw [← hnn'] at hn' HSp ⊢
  have hx : (n : Int) ≤ 140737488355328 := by have : n ≤ 140737488355328 := hn; omega
  have hx' : (n' : Int) ≤ 140737488355328 := by have : n' ≤ 140737488355328 := hn'; omega
  obtain ⟨X, hX⟩ : ∃ X, X = daEq l l' := ⟨_, rfl⟩
  have HX : Hid (X = daEq (l.drop 0) (l'.drop 0)) := Lib.hid hX
  by_cases hne : n = n'
  · subst hne
    rw [← hX]
    clear hs hs' hn hn' hnn hnn' hX
    have hnn : ((n : Int) == (n : Int)) = true := by simp
    go_enter Tryz.func18, Tryz.ntmps18
    go_wp2_with fail
    go_loopw [17] (fun vi wr => ∃ (i : Nat), vi = .int .i64 (i : Int) ∧ i ≤ n ∧ Hid (Below w.heap.size w wr) ∧ Hid (X = daEq (l.drop i) (l'.drop i))) (fun vi _ => n + 1 - (intOf vi).toNat)
    case atStart => exact ⟨0, rfl, by omega, Lib.hid (Below.refl _ _), HX⟩
    case round =>
      clear HX
      obtain ⟨i, rfl, hin, HB, HX⟩ := hrel
      by_cases hii : (i : Int) < (n : Int)
      · have hi0 : (0 : Int) ≤ (i : Int) := by omega
        have hi1 : i < l.length := by have := HN.out; omega
        have hi2 : i < l'.length := by have := HNp.out; omega
        obtain ⟨b, o, rfl, hbw, ht⟩ := HS.out (by omega)
        obtain ⟨b', o', rfl, hbw', ht'⟩ := HSp.out (by omega)
        obtain ⟨n1, a1, c1, n2, a2, c2, e0, e1, e2, hv⟩ := da_first ht hi1
        obtain ⟨n1p, a1p, c1p, n2p, a2p, c2p, e0p, e1p, e2p, hvp⟩ := da_first ht' hi2
        have hXX := HX.out
        rw [drop_two hi1, drop_two hi2] at hXX
        obtain ⟨x, hxx⟩ : ∃ x, x = l[i] := ⟨_, rfl⟩
        obtain ⟨y, hyy⟩ : ∃ x, x = l'[i] := ⟨_, rfl⟩
        rw [← hxx] at e0 hv hXX
        rw [← hyy] at e0p hvp hXX
        have hbel : ∀ k, wr.cell? ⟨b, k, none⟩ = w.cell? ⟨b, k, none⟩ := fun k => HB.out.cell (p := ⟨b, k, none⟩) hbw
        have hbel' : ∀ k, wr.cell? ⟨b', k, none⟩ = w.cell? ⟨b', k, none⟩ := fun k => HB.out.cell (p := ⟨b', k, none⟩) hbw'
        have e0' := (hbel _).trans e0
        have e1' := (hbel _).trans e1
        have e2' := (hbel _).trans e2
        have e0p' := ((Below.refl _ wr).alloc (Nat.le_refl _) (.cells #[.string x.1, .slice a1 n1 c1, .slice a2 n2 c2] 45)).cell (p := ⟨b', _, none⟩) (Nat.lt_of_lt_of_le hbw' HB.out.size) |>.trans ((hbel' _).trans e0p)
        have e1p' := ((Below.refl _ wr).alloc (Nat.le_refl _) (.cells #[.string x.1, .slice a1 n1 c1, .slice a2 n2 c2] 45)).cell (p := ⟨b', _, none⟩) (Nat.lt_of_lt_of_le hbw' HB.out.size) |>.trans ((hbel' _).trans e1p)
        have e2p' := ((Below.refl _ wr).alloc (Nat.le_refl _) (.cells #[.string x.1, .slice a1 n1 c1, .slice a2 n2 c2] 45)).cell (p := ⟨b', _, none⟩) (Nat.lt_of_lt_of_le hbw' HB.out.size) |>.trans ((hbel' _).trans e2p)
        have HBA : Hid (Below w.heap.size w ((wr.alloc (.cells #[.string x.1, .slice a1 n1 c1, .slice a2 n2 c2] 45)).alloc (.cells #[.string y.1, .slice a1p n1p c1p, .slice a2p n2p c2p] 45))) := Lib.hid ((HB.out.alloc HB.out.size _).alloc (by have := HB.out.size; simp; omega) _)
        have HC := HE.out x y _ _ ((wr.alloc (.cells #[.string x.1, .slice a1 n1 c1, .slice a2 n2 c2] 45)).alloc (.cells #[.string y.1, .slice a1p n1p c1p, .slice a2p n2p c2p] 45)) (hv.below HBA.out) (hvp.below HBA.out)
        obtain ⟨c, hc⟩ : ∃ c, c = (x.1.toList == y.1.toList && (txEq x.2.1 y.2.1 && coEq x.2.2 y.2.2)) := ⟨_, rfl⟩
        rw [← hc] at HC
        have HXX : Hid (X = (c && daEq (l.drop (i + 1)) (l'.drop (i + 1)))) := Lib.hid (by rw [hXX, hc]; rfl)
        have HC := Lib.hid HC
        clear hbel hbel' e0 e1 e2 e0p e1p e2p ht ht' hv hvp hc hXX HX hi1 hi2 hxx hyy
        go_wp2_with fail
        refine HC.out.mono ?_
        rintro e w2 ⟨rfl, hb2⟩
        have HB2 : Hid (Below w.heap.size w w2) := Lib.hid (HBA.out.trans (hb2.mono HBA.out.size))
        clear hb2 HC
        cases c
        · have HT : Hid (X = false) := Lib.hid (by rw [HXX.out]; rfl)
          go_wp2_with fail
          go_ret
          exact ⟨by rw [HT.out]; rfl, HB2.out⟩
        · go_wp2_with fail
          go_roundw
          case rel => exact ⟨i + 1, by go_num, by omega, HB2, Lib.hid (by simpa using HXX.out)⟩
          case measure => simp [intOf]; omega
      · have HT : Hid (X = true) := Lib.hid (by rw [HX.out, List.drop_eq_nil_of_le (by have := HN.out; omega), List.drop_eq_nil_of_le (by have := HNp.out; omega)]; rfl)
        go_wp2_with fail
        go_ret
        exact ⟨by rw [HT.out]; rfl, HB.out⟩
  · have hf : daEq l l' = false := by
      cases h : daEq l l'
      · rfl
      · have := daEq_len h; omega
    have hnn2 : ((n : Int) == (n' : Int)) = false := by simp; omega
    rw [hf]
    clear hs hs' hn hn' hnn hnn' hX hf HX
    go_enter Tryz.func18, Tryz.ntmps18
    go_wp2_with fail
    go_ret
    exact ⟨rfl, Below.refl _ _⟩
set_option maxRecDepth 100000 in
set_option maxHeartbeats 8000000 in
theorem sameData_any (x y : Da) (v v' : Value) (w : World) (hv : DaV w x v) (hv' : DaV w y v') : Calls Tryz.prog 19 #[v, v'] w (Grew (.bool (x.1.toList == y.1.toList && (txEq x.2.1 y.2.1 && coEq x.2.2 y.2.2))) w) := by
  obtain ⟨n1, a1, c1, n2, a2, c2, rfl, hnm, hs, ht⟩ := hv
  obtain ⟨n1p, a1p, c1p, n2p, a2p, c2p, rfl, hnmp, hsp, htp⟩ := hv'
  obtain ⟨X, hX⟩ : ∃ X, X = (x.1.toList == y.1.toList && (txEq x.2.1 y.2.1 && coEq x.2.2 y.2.2)) := ⟨_, rfl⟩
  have HX := Lib.hid hX
  rw [← hX]
  have HS := Lib.hid hs
  have HSp := Lib.hid hsp
  have HK := Lib.hid ht
  have HKp := Lib.hid htp
  clear hs hsp hX ht htp
  have HB0 : Hid (Below w.heap.size w ((w.alloc (.cells #[.string x.1, .slice a1 n1 c1, .slice a2 n2 c2] 45)).alloc (.cells #[.string y.1, .slice a1p n1p c1p, .slice a2p n2p c2p] 45))) := Lib.hid (((Below.refl _ w).alloc (Nat.le_refl _) _).alloc (by simp) _)
  have hA := box2a w #[.string x.1, .slice a1 n1 c1, .slice a2 n2 c2] #[.string y.1, .slice a1p n1p c1p, .slice a2p n2p c2p] 45 45
  have hB := box2b w #[.string x.1, .slice a1 n1 c1, .slice a2 n2 c2] #[.string y.1, .slice a1p n1p c1p, .slice a2p n2p c2p] 45 45
  have A0 := hA 0 (.string x.1) rfl
  have A1 := hA 1 (.slice a1 n1 c1) rfl
  have A2 := hA 2 (.slice a2 n2 c2) rfl
  have B0 := hB 0 (.string y.1) rfl
  have B1 := hB 1 (.slice a1p n1p c1p) rfl
  have B2 := hB 2 (.slice a2p n2p c2p) rfl
  clear hA hB
  cases hq0 : (x.1.toList == y.1.toList)
  · have HT : Hid (X = false) := Lib.hid (by rw [HX.out, hq0]; rfl)
    go_enter Tryz.func19, Tryz.ntmps19
    go_wp2_with fail
    go_ret
    exact ⟨by rw [HT.out]; rfl, HB0.out⟩
  · have HC1 := txEqual_any x.2.1 y.2.1 _ _ ((w.alloc (.cells #[.string x.1, .slice a1 n1 c1, .slice a2 n2 c2] 45)).alloc (.cells #[.string y.1, .slice a1p n1p c1p, .slice a2p n2p c2p] 45)) (HS.out.mono HB0.out.size fun _ _ p q => TxIn.below HB0.out p q) (HSp.out.mono HB0.out.size fun _ _ p q => TxIn.below HB0.out p q)
    obtain ⟨x1, hx1⟩ : ∃ zz, zz = (txEq x.2.1 y.2.1) := ⟨_, rfl⟩
    rw [← hx1] at HC1
    have HC1 := Lib.hid HC1
    have HX1 := Lib.hid hx1
    clear hx1
    go_enter Tryz.func19, Tryz.ntmps19
    go_wp2_with fail
    refine HC1.out.mono ?_
    rintro e u1 ⟨rfl, hb1⟩
    have A0 := (hb1.cell (p := ⟨w.heap.size, 0, none⟩) (by have := HB0.out.size; first | (simp; done) | (have := World.block_lt_of_cell? _ _ A0; exact this))).trans A0
    have A1 := (hb1.cell (p := ⟨w.heap.size, 1, none⟩) (by have := HB0.out.size; first | (simp; done) | (have := World.block_lt_of_cell? _ _ A1; exact this))).trans A1
    have A2 := (hb1.cell (p := ⟨w.heap.size, 2, none⟩) (by have := HB0.out.size; first | (simp; done) | (have := World.block_lt_of_cell? _ _ A2; exact this))).trans A2
    have B0 := (hb1.cell (p := ⟨w.heap.size + 1, 0, none⟩) (by have := HB0.out.size; first | (simp; done) | (have := World.block_lt_of_cell? _ _ B0; exact this))).trans B0
    have B1 := (hb1.cell (p := ⟨w.heap.size + 1, 1, none⟩) (by have := HB0.out.size; first | (simp; done) | (have := World.block_lt_of_cell? _ _ B1; exact this))).trans B1
    have B2 := (hb1.cell (p := ⟨w.heap.size + 1, 2, none⟩) (by have := HB0.out.size; first | (simp; done) | (have := World.block_lt_of_cell? _ _ B2; exact this))).trans B2
    have HB2 : Hid (Below w.heap.size w u1) := Lib.hid (HB0.out.trans (hb1.mono HB0.out.size))
    clear hb1 HC1
    cases x1
    · have hq1 : (txEq x.2.1 y.2.1) = false := HX1.out.symm
      have HT : Hid (X = false) := Lib.hid (by rw [HX.out, hq0, hq1]; rfl)
      clear hq1
      go_wp2_with fail
      go_ret
      exact ⟨by rw [HT.out]; rfl, HB2.out⟩
    · have HQ1 : Hid ((txEq x.2.1 y.2.1) = true) := Lib.hid HX1.out.symm
      have HC2 := eqlCo_any sameCons_any x.2.2 y.2.2 _ _ u1 (HK.out.mono HB2.out.size fun _ _ p q => CoIn.below HB2.out p q) (HKp.out.mono HB2.out.size fun _ _ p q => CoIn.below HB2.out p q)
      obtain ⟨x2, hx2⟩ : ∃ zz, zz = (coEq x.2.2 y.2.2) := ⟨_, rfl⟩
      rw [← hx2] at HC2
      have HC2 := Lib.hid HC2
      have HX2 := Lib.hid hx2
      clear hx2
      go_wp2_with fail
      refine HC2.out.mono ?_
      rintro e u2 ⟨rfl, hb2⟩
      have A0 := (hb2.cell (p := ⟨w.heap.size, 0, none⟩) (by have := HB2.out.size; first | (simp; done) | (have := World.block_lt_of_cell? _ _ A0; exact this))).trans A0
      have A1 := (hb2.cell (p := ⟨w.heap.size, 1, none⟩) (by have := HB2.out.size; first | (simp; done) | (have := World.block_lt_of_cell? _ _ A1; exact this))).trans A1
      have A2 := (hb2.cell (p := ⟨w.heap.size, 2, none⟩) (by have := HB2.out.size; first | (simp; done) | (have := World.block_lt_of_cell? _ _ A2; exact this))).trans A2
      have B0 := (hb2.cell (p := ⟨w.heap.size + 1, 0, none⟩) (by have := HB2.out.size; first | (simp; done) | (have := World.block_lt_of_cell? _ _ B0; exact this))).trans B0
      have B1 := (hb2.cell (p := ⟨w.heap.size + 1, 1, none⟩) (by have := HB2.out.size; first | (simp; done) | (have := World.block_lt_of_cell? _ _ B1; exact this))).trans B1
      have B2 := (hb2.cell (p := ⟨w.heap.size + 1, 2, none⟩) (by have := HB2.out.size; first | (simp; done) | (have := World.block_lt_of_cell? _ _ B2; exact this))).trans B2
      have HB3 : Hid (Below w.heap.size w u2) := Lib.hid (HB2.out.trans (hb2.mono HB2.out.size))
      clear hb2 HC2
      cases x2
      · have hq2 : (coEq x.2.2 y.2.2) = false := HX2.out.symm
        have HT : Hid (X = false) := Lib.hid (by rw [HX.out, hq0, HQ1.out, hq2]; rfl)
        clear hq2
        go_wp2_with fail
        go_ret
        exact ⟨by rw [HT.out]; rfl, HB3.out⟩
      · have HQ2 : Hid ((coEq x.2.2 y.2.2) = true) := Lib.hid HX2.out.symm
        have HT : Hid (X = true) := Lib.hid (by rw [HX.out, hq0, HQ1.out, HQ2.out]; rfl)
        go_wp2_with fail
        go_ret
        exact ⟨by rw [HT.out]; rfl, HB3.out⟩
set_option maxRecDepth 100000 in
set_option maxHeartbeats 8000000 in
theorem eqlDe_any (HE : ∀ (x y : De) (v v' : Value) (w : World), DeV w x v → DeV w y v' → Calls Tryz.prog 21 #[v, v'] w (Grew (.bool (x.1.toList == y.1.toList && (txEq x.2.1 y.2.1 && x.2.2.eq y.2.2))) w)) (l l' : List De) (v v' : Value) (w : World)
    (h : SlAt w v l.length fun b o => DeIn w l b o) (h' : SlAt w v' l'.length fun b o => DeIn w l' b o) :
    Calls Tryz.prog 20 #[v, v', .func (.func 21) #[] #[]] w (Grew (.bool (deEq l l')) w) := by
  have HE := Lib.hid HE
  obtain ⟨hn, ao, cap, rfl, -, hs⟩ := h
  obtain ⟨hn', ao', cap', rfl, -, hs'⟩ := h'
  have HS := Lib.hid hs
  have HSp := Lib.hid hs'
  obtain ⟨n, hnn⟩ : ∃ n, n = l.length := ⟨_, rfl⟩
  obtain ⟨n', hnn'⟩ : ∃ n, n = l'.length := ⟨_, rfl⟩
  have HN := Lib.hid hnn
  have HNp := Lib.hid hnn'
  rw [← hnn] at hn HS ⊢
  rw [← hnn'] at hn' HSp ⊢
  have hx : (n : Int) ≤ 140737488355328 := by have : n ≤ 140737488355328 := hn; omega
  have hx' : (n' : Int) ≤ 140737488355328 := by have : n' ≤ 140737488355328 := hn'; omega
  obtain ⟨X, hX⟩ : ∃ X, X = deEq l l' := ⟨_, rfl⟩
  have HX : Hid (X = deEq (l.drop 0) (l'.drop 0)) := Lib.hid hX
  by_cases hne : n = n'
  · subst hne
    rw [← hX]
    clear hs hs' hn hn' hnn hnn' hX
    have hnn : ((n : Int) == (n : Int)) = true := by simp
    go_enter Tryz.func20, Tryz.ntmps20
    go_wp2_with fail
    go_loopw [17] (fun vi wr => ∃ (i : Nat), vi = .int .i64 (i : Int) ∧ i ≤ n ∧ Hid (Below w.heap.size w wr) ∧ Hid (X = deEq (l.drop i) (l'.drop i))) (fun vi _ => n + 1 - (intOf vi).toNat)
    case atStart => exact ⟨0, rfl, by omega, Lib.hid (Below.refl _ _), HX⟩
    case round =>
      clear HX
      obtain ⟨i, rfl, hin, HB, HX⟩ := hrel
      by_cases hii : (i : Int) < (n : Int)
      · have hi0 : (0 : Int) ≤ (i : Int) := by omega
        have hi1 : i < l.length := by have := HN.out; omega
        have hi2 : i < l'.length := by have := HNp.out; omega
        obtain ⟨b, o, rfl, hbw, ht⟩ := HS.out (by omega)
        obtain ⟨b', o', rfl, hbw', ht'⟩ := HSp.out (by omega)
        obtain ⟨n0, a0, c0, op, nm, num, n1, a1, c1, n2, a2, c2, n3, a3, c3, e0, e1, e2, e3, e4, e5, e6, e7, hv⟩ := de_first ht hi1
        obtain ⟨n0p, a0p, c0p, opp, nmp, nump, n1p, a1p, c1p, n2p, a2p, c2p, n3p, a3p, c3p, e0p, e1p, e2p, e3p, e4p, e5p, e6p, e7p, hvp⟩ := de_first ht' hi2
        have hXX := HX.out
        rw [drop_two hi1, drop_two hi2] at hXX
        obtain ⟨x, hxx⟩ : ∃ x, x = l[i] := ⟨_, rfl⟩
        obtain ⟨y, hyy⟩ : ∃ x, x = l'[i] := ⟨_, rfl⟩
        rw [← hxx] at e0 hv hXX
        rw [← hyy] at e0p hvp hXX
        have hbel : ∀ k, wr.cell? ⟨b, k, none⟩ = w.cell? ⟨b, k, none⟩ := fun k => HB.out.cell (p := ⟨b, k, none⟩) hbw
        have hbel' : ∀ k, wr.cell? ⟨b', k, none⟩ = w.cell? ⟨b', k, none⟩ := fun k => HB.out.cell (p := ⟨b', k, none⟩) hbw'
        have e0' := (hbel _).trans e0
        have e1' := (hbel _).trans e1
        have e2' := (hbel _).trans e2
        have e3' := (hbel _).trans e3
        have e4' := (hbel _).trans e4
        have e5' := (hbel _).trans e5
        have e6' := (hbel _).trans e6
        have e7' := (hbel _).trans e7
        have e0p' := ((Below.refl _ wr).alloc (Nat.le_refl _) (.cells #[.string x.1, .slice a0 n0 c0, .int .i64 op, .string nm, .int .i64 num, .slice a1 n1 c1, .slice a2 n2 c2, .slice a3 n3 c3] 37)).cell (p := ⟨b', _, none⟩) (Nat.lt_of_lt_of_le hbw' HB.out.size) |>.trans ((hbel' _).trans e0p)
        have e1p' := ((Below.refl _ wr).alloc (Nat.le_refl _) (.cells #[.string x.1, .slice a0 n0 c0, .int .i64 op, .string nm, .int .i64 num, .slice a1 n1 c1, .slice a2 n2 c2, .slice a3 n3 c3] 37)).cell (p := ⟨b', _, none⟩) (Nat.lt_of_lt_of_le hbw' HB.out.size) |>.trans ((hbel' _).trans e1p)
        have e2p' := ((Below.refl _ wr).alloc (Nat.le_refl _) (.cells #[.string x.1, .slice a0 n0 c0, .int .i64 op, .string nm, .int .i64 num, .slice a1 n1 c1, .slice a2 n2 c2, .slice a3 n3 c3] 37)).cell (p := ⟨b', _, none⟩) (Nat.lt_of_lt_of_le hbw' HB.out.size) |>.trans ((hbel' _).trans e2p)
        have e3p' := ((Below.refl _ wr).alloc (Nat.le_refl _) (.cells #[.string x.1, .slice a0 n0 c0, .int .i64 op, .string nm, .int .i64 num, .slice a1 n1 c1, .slice a2 n2 c2, .slice a3 n3 c3] 37)).cell (p := ⟨b', _, none⟩) (Nat.lt_of_lt_of_le hbw' HB.out.size) |>.trans ((hbel' _).trans e3p)
        have e4p' := ((Below.refl _ wr).alloc (Nat.le_refl _) (.cells #[.string x.1, .slice a0 n0 c0, .int .i64 op, .string nm, .int .i64 num, .slice a1 n1 c1, .slice a2 n2 c2, .slice a3 n3 c3] 37)).cell (p := ⟨b', _, none⟩) (Nat.lt_of_lt_of_le hbw' HB.out.size) |>.trans ((hbel' _).trans e4p)
        have e5p' := ((Below.refl _ wr).alloc (Nat.le_refl _) (.cells #[.string x.1, .slice a0 n0 c0, .int .i64 op, .string nm, .int .i64 num, .slice a1 n1 c1, .slice a2 n2 c2, .slice a3 n3 c3] 37)).cell (p := ⟨b', _, none⟩) (Nat.lt_of_lt_of_le hbw' HB.out.size) |>.trans ((hbel' _).trans e5p)
        have e6p' := ((Below.refl _ wr).alloc (Nat.le_refl _) (.cells #[.string x.1, .slice a0 n0 c0, .int .i64 op, .string nm, .int .i64 num, .slice a1 n1 c1, .slice a2 n2 c2, .slice a3 n3 c3] 37)).cell (p := ⟨b', _, none⟩) (Nat.lt_of_lt_of_le hbw' HB.out.size) |>.trans ((hbel' _).trans e6p)
        have e7p' := ((Below.refl _ wr).alloc (Nat.le_refl _) (.cells #[.string x.1, .slice a0 n0 c0, .int .i64 op, .string nm, .int .i64 num, .slice a1 n1 c1, .slice a2 n2 c2, .slice a3 n3 c3] 37)).cell (p := ⟨b', _, none⟩) (Nat.lt_of_lt_of_le hbw' HB.out.size) |>.trans ((hbel' _).trans e7p)
        have HBA : Hid (Below w.heap.size w ((wr.alloc (.cells #[.string x.1, .slice a0 n0 c0, .int .i64 op, .string nm, .int .i64 num, .slice a1 n1 c1, .slice a2 n2 c2, .slice a3 n3 c3] 37)).alloc (.cells #[.string y.1, .slice a0p n0p c0p, .int .i64 opp, .string nmp, .int .i64 nump, .slice a1p n1p c1p, .slice a2p n2p c2p, .slice a3p n3p c3p] 37))) := Lib.hid ((HB.out.alloc HB.out.size _).alloc (by have := HB.out.size; simp; omega) _)
        have HC := HE.out x y _ _ ((wr.alloc (.cells #[.string x.1, .slice a0 n0 c0, .int .i64 op, .string nm, .int .i64 num, .slice a1 n1 c1, .slice a2 n2 c2, .slice a3 n3 c3] 37)).alloc (.cells #[.string y.1, .slice a0p n0p c0p, .int .i64 opp, .string nmp, .int .i64 nump, .slice a1p n1p c1p, .slice a2p n2p c2p, .slice a3p n3p c3p] 37)) (hv.below HBA.out) (hvp.below HBA.out)
        obtain ⟨c, hc⟩ : ∃ c, c = (x.1.toList == y.1.toList && (txEq x.2.1 y.2.1 && x.2.2.eq y.2.2)) := ⟨_, rfl⟩
        rw [← hc] at HC
        have HXX : Hid (X = (c && deEq (l.drop (i + 1)) (l'.drop (i + 1)))) := Lib.hid (by rw [hXX, hc]; rfl)
        have HC := Lib.hid HC
        clear hbel hbel' e0 e1 e2 e3 e4 e5 e6 e7 e0p e1p e2p e3p e4p e5p e6p e7p ht ht' hv hvp hc hXX HX hi1 hi2 hxx hyy
        go_wp2_with fail
        refine HC.out.mono ?_
        rintro e w2 ⟨rfl, hb2⟩
        have HB2 : Hid (Below w.heap.size w w2) := Lib.hid (HBA.out.trans (hb2.mono HBA.out.size))
        clear hb2 HC
        cases c
        · have HT : Hid (X = false) := Lib.hid (by rw [HXX.out]; rfl)
          go_wp2_with fail
          go_ret
          exact ⟨by rw [HT.out]; rfl, HB2.out⟩
        · go_wp2_with fail
          go_roundw
          case rel => exact ⟨i + 1, by go_num, by omega, HB2, Lib.hid (by simpa using HXX.out)⟩
          case measure => simp [intOf]; omega
      · have HT : Hid (X = true) := Lib.hid (by rw [HX.out, List.drop_eq_nil_of_le (by have := HN.out; omega), List.drop_eq_nil_of_le (by have := HNp.out; omega)]; rfl)
        go_wp2_with fail
        go_ret
        exact ⟨by rw [HT.out]; rfl, HB.out⟩
  · have hf : deEq l l' = false := by
      cases h : deEq l l'
      · rfl
      · have := deEq_len h; omega
    have hnn2 : ((n : Int) == (n' : Int)) = false := by simp; omega
    rw [hf]
    clear hs hs' hn hn' hnn hnn' hX hf HX
    go_enter Tryz.func20, Tryz.ntmps20
    go_wp2_with fail
    go_ret
    exact ⟨rfl, Below.refl _ _⟩
set_option maxRecDepth 100000 in
set_option maxHeartbeats 8000000 in
theorem sameDef_any (x y : De) (v v' : Value) (w : World) (hv : DeV w x v) (hv' : DeV w y v') : Calls Tryz.prog 21 #[v, v'] w (Grew (.bool (x.1.toList == y.1.toList && (txEq x.2.1 y.2.1 && x.2.2.eq y.2.2))) w) := by
  obtain ⟨n0, a0, c0, op, nm, num, n1, a1, c1, n2, a2, c2, n3, a3, c3, rfl, hnm, hs, ht⟩ := hv
  obtain ⟨n0p, a0p, c0p, opp, nmp, nump, n1p, a1p, c1p, n2p, a2p, c2p, n3p, a3p, c3p, rfl, hnmp, hsp, htp⟩ := hv'
  obtain ⟨X, hX⟩ : ∃ X, X = (x.1.toList == y.1.toList && (txEq x.2.1 y.2.1 && x.2.2.eq y.2.2)) := ⟨_, rfl⟩
  have HX := Lib.hid hX
  rw [← hX]
  have HS := Lib.hid hs
  have HSp := Lib.hid hsp
  have HK := Lib.hid ht
  have HKp := Lib.hid htp
  clear hs hsp hX ht htp
  have HB0 : Hid (Below w.heap.size w ((w.alloc (.cells #[.string x.1, .slice a0 n0 c0, .int .i64 op, .string nm, .int .i64 num, .slice a1 n1 c1, .slice a2 n2 c2, .slice a3 n3 c3] 37)).alloc (.cells #[.string y.1, .slice a0p n0p c0p, .int .i64 opp, .string nmp, .int .i64 nump, .slice a1p n1p c1p, .slice a2p n2p c2p, .slice a3p n3p c3p] 37))) := Lib.hid (((Below.refl _ w).alloc (Nat.le_refl _) _).alloc (by simp) _)
  have hA := box2a w #[.string x.1, .slice a0 n0 c0, .int .i64 op, .string nm, .int .i64 num, .slice a1 n1 c1, .slice a2 n2 c2, .slice a3 n3 c3] #[.string y.1, .slice a0p n0p c0p, .int .i64 opp, .string nmp, .int .i64 nump, .slice a1p n1p c1p, .slice a2p n2p c2p, .slice a3p n3p c3p] 37 37
  have hB := box2b w #[.string x.1, .slice a0 n0 c0, .int .i64 op, .string nm, .int .i64 num, .slice a1 n1 c1, .slice a2 n2 c2, .slice a3 n3 c3] #[.string y.1, .slice a0p n0p c0p, .int .i64 opp, .string nmp, .int .i64 nump, .slice a1p n1p c1p, .slice a2p n2p c2p, .slice a3p n3p c3p] 37 37
  have A0 := hA 0 (.string x.1) rfl
  have A1 := hA 1 (.slice a0 n0 c0) rfl
  have A2 := hA 2 (.int .i64 op) rfl
  have A3 := hA 3 (.string nm) rfl
  have A4 := hA 4 (.int .i64 num) rfl
  have A5 := hA 5 (.slice a1 n1 c1) rfl
  have A6 := hA 6 (.slice a2 n2 c2) rfl
  have A7 := hA 7 (.slice a3 n3 c3) rfl
  have B0 := hB 0 (.string y.1) rfl
  have B1 := hB 1 (.slice a0p n0p c0p) rfl
  have B2 := hB 2 (.int .i64 opp) rfl
  have B3 := hB 3 (.string nmp) rfl
  have B4 := hB 4 (.int .i64 nump) rfl
  have B5 := hB 5 (.slice a1p n1p c1p) rfl
  have B6 := hB 6 (.slice a2p n2p c2p) rfl
  have B7 := hB 7 (.slice a3p n3p c3p) rfl
  clear hA hB
  cases hq0 : (x.1.toList == y.1.toList)
  · have HT : Hid (X = false) := Lib.hid (by rw [HX.out, hq0]; rfl)
    go_enter Tryz.func21, Tryz.ntmps21
    go_wp2_with fail
    go_ret
    exact ⟨by rw [HT.out]; rfl, HB0.out⟩
  · have HC1 := txEqual_any x.2.1 y.2.1 _ _ ((w.alloc (.cells #[.string x.1, .slice a0 n0 c0, .int .i64 op, .string nm, .int .i64 num, .slice a1 n1 c1, .slice a2 n2 c2, .slice a3 n3 c3] 37)).alloc (.cells #[.string y.1, .slice a0p n0p c0p, .int .i64 opp, .string nmp, .int .i64 nump, .slice a1p n1p c1p, .slice a2p n2p c2p, .slice a3p n3p c3p] 37)) (HS.out.mono HB0.out.size fun _ _ p q => TxIn.below HB0.out p q) (HSp.out.mono HB0.out.size fun _ _ p q => TxIn.below HB0.out p q)
    obtain ⟨x1, hx1⟩ : ∃ zz, zz = (txEq x.2.1 y.2.1) := ⟨_, rfl⟩
    rw [← hx1] at HC1
    have HC1 := Lib.hid HC1
    have HX1 := Lib.hid hx1
    clear hx1
    go_enter Tryz.func21, Tryz.ntmps21
    go_wp2_with fail
    refine HC1.out.mono ?_
    rintro e u1 ⟨rfl, hb1⟩
    have A0 := (hb1.cell (p := ⟨w.heap.size, 0, none⟩) (by have := HB0.out.size; first | (simp; done) | (have := World.block_lt_of_cell? _ _ A0; exact this))).trans A0
    have A1 := (hb1.cell (p := ⟨w.heap.size, 1, none⟩) (by have := HB0.out.size; first | (simp; done) | (have := World.block_lt_of_cell? _ _ A1; exact this))).trans A1
    have A2 := (hb1.cell (p := ⟨w.heap.size, 2, none⟩) (by have := HB0.out.size; first | (simp; done) | (have := World.block_lt_of_cell? _ _ A2; exact this))).trans A2
    have A3 := (hb1.cell (p := ⟨w.heap.size, 3, none⟩) (by have := HB0.out.size; first | (simp; done) | (have := World.block_lt_of_cell? _ _ A3; exact this))).trans A3
    have A4 := (hb1.cell (p := ⟨w.heap.size, 4, none⟩) (by have := HB0.out.size; first | (simp; done) | (have := World.block_lt_of_cell? _ _ A4; exact this))).trans A4
    have A5 := (hb1.cell (p := ⟨w.heap.size, 5, none⟩) (by have := HB0.out.size; first | (simp; done) | (have := World.block_lt_of_cell? _ _ A5; exact this))).trans A5
    have A6 := (hb1.cell (p := ⟨w.heap.size, 6, none⟩) (by have := HB0.out.size; first | (simp; done) | (have := World.block_lt_of_cell? _ _ A6; exact this))).trans A6
    have A7 := (hb1.cell (p := ⟨w.heap.size, 7, none⟩) (by have := HB0.out.size; first | (simp; done) | (have := World.block_lt_of_cell? _ _ A7; exact this))).trans A7
    have B0 := (hb1.cell (p := ⟨w.heap.size + 1, 0, none⟩) (by have := HB0.out.size; first | (simp; done) | (have := World.block_lt_of_cell? _ _ B0; exact this))).trans B0
    have B1 := (hb1.cell (p := ⟨w.heap.size + 1, 1, none⟩) (by have := HB0.out.size; first | (simp; done) | (have := World.block_lt_of_cell? _ _ B1; exact this))).trans B1
    have B2 := (hb1.cell (p := ⟨w.heap.size + 1, 2, none⟩) (by have := HB0.out.size; first | (simp; done) | (have := World.block_lt_of_cell? _ _ B2; exact this))).trans B2
    have B3 := (hb1.cell (p := ⟨w.heap.size + 1, 3, none⟩) (by have := HB0.out.size; first | (simp; done) | (have := World.block_lt_of_cell? _ _ B3; exact this))).trans B3
    have B4 := (hb1.cell (p := ⟨w.heap.size + 1, 4, none⟩) (by have := HB0.out.size; first | (simp; done) | (have := World.block_lt_of_cell? _ _ B4; exact this))).trans B4
    have B5 := (hb1.cell (p := ⟨w.heap.size + 1, 5, none⟩) (by have := HB0.out.size; first | (simp; done) | (have := World.block_lt_of_cell? _ _ B5; exact this))).trans B5
    have B6 := (hb1.cell (p := ⟨w.heap.size + 1, 6, none⟩) (by have := HB0.out.size; first | (simp; done) | (have := World.block_lt_of_cell? _ _ B6; exact this))).trans B6
    have B7 := (hb1.cell (p := ⟨w.heap.size + 1, 7, none⟩) (by have := HB0.out.size; first | (simp; done) | (have := World.block_lt_of_cell? _ _ B7; exact this))).trans B7
    have HB2 : Hid (Below w.heap.size w u1) := Lib.hid (HB0.out.trans (hb1.mono HB0.out.size))
    clear hb1 HC1
    cases x1
    · have hq1 : (txEq x.2.1 y.2.1) = false := HX1.out.symm
      have HT : Hid (X = false) := Lib.hid (by rw [HX.out, hq0, hq1]; rfl)
      clear hq1
      go_wp2_with fail
      go_ret
      exact ⟨by rw [HT.out]; rfl, HB2.out⟩
    · have HQ1 : Hid ((txEq x.2.1 y.2.1) = true) := Lib.hid HX1.out.symm
      have HC2 := sameExpr_any x.2.2.cost x.2.2 y.2.2 (Nat.le_refl _) _ _ u1 (HK.out.below HB2.out) (HKp.out.below HB2.out)
      obtain ⟨x2, hx2⟩ : ∃ zz, zz = (x.2.2.eq y.2.2) := ⟨_, rfl⟩
      rw [← hx2] at HC2
      have HC2 := Lib.hid HC2
      have HX2 := Lib.hid hx2
      clear hx2
      go_wp2_with fail
      refine HC2.out.mono ?_
      rintro e u2 ⟨rfl, hb2⟩
      have A0 := (hb2.cell (p := ⟨w.heap.size, 0, none⟩) (by have := HB2.out.size; first | (simp; done) | (have := World.block_lt_of_cell? _ _ A0; exact this))).trans A0
      have A1 := (hb2.cell (p := ⟨w.heap.size, 1, none⟩) (by have := HB2.out.size; first | (simp; done) | (have := World.block_lt_of_cell? _ _ A1; exact this))).trans A1
      have A2 := (hb2.cell (p := ⟨w.heap.size, 2, none⟩) (by have := HB2.out.size; first | (simp; done) | (have := World.block_lt_of_cell? _ _ A2; exact this))).trans A2
      have A3 := (hb2.cell (p := ⟨w.heap.size, 3, none⟩) (by have := HB2.out.size; first | (simp; done) | (have := World.block_lt_of_cell? _ _ A3; exact this))).trans A3
      have A4 := (hb2.cell (p := ⟨w.heap.size, 4, none⟩) (by have := HB2.out.size; first | (simp; done) | (have := World.block_lt_of_cell? _ _ A4; exact this))).trans A4
      have A5 := (hb2.cell (p := ⟨w.heap.size, 5, none⟩) (by have := HB2.out.size; first | (simp; done) | (have := World.block_lt_of_cell? _ _ A5; exact this))).trans A5
      have A6 := (hb2.cell (p := ⟨w.heap.size, 6, none⟩) (by have := HB2.out.size; first | (simp; done) | (have := World.block_lt_of_cell? _ _ A6; exact this))).trans A6
      have A7 := (hb2.cell (p := ⟨w.heap.size, 7, none⟩) (by have := HB2.out.size; first | (simp; done) | (have := World.block_lt_of_cell? _ _ A7; exact this))).trans A7
      have B0 := (hb2.cell (p := ⟨w.heap.size + 1, 0, none⟩) (by have := HB2.out.size; first | (simp; done) | (have := World.block_lt_of_cell? _ _ B0; exact this))).trans B0
      have B1 := (hb2.cell (p := ⟨w.heap.size + 1, 1, none⟩) (by have := HB2.out.size; first | (simp; done) | (have := World.block_lt_of_cell? _ _ B1; exact this))).trans B1
      have B2 := (hb2.cell (p := ⟨w.heap.size + 1, 2, none⟩) (by have := HB2.out.size; first | (simp; done) | (have := World.block_lt_of_cell? _ _ B2; exact this))).trans B2
      have B3 := (hb2.cell (p := ⟨w.heap.size + 1, 3, none⟩) (by have := HB2.out.size; first | (simp; done) | (have := World.block_lt_of_cell? _ _ B3; exact this))).trans B3
      have B4 := (hb2.cell (p := ⟨w.heap.size + 1, 4, none⟩) (by have := HB2.out.size; first | (simp; done) | (have := World.block_lt_of_cell? _ _ B4; exact this))).trans B4
      have B5 := (hb2.cell (p := ⟨w.heap.size + 1, 5, none⟩) (by have := HB2.out.size; first | (simp; done) | (have := World.block_lt_of_cell? _ _ B5; exact this))).trans B5
      have B6 := (hb2.cell (p := ⟨w.heap.size + 1, 6, none⟩) (by have := HB2.out.size; first | (simp; done) | (have := World.block_lt_of_cell? _ _ B6; exact this))).trans B6
      have B7 := (hb2.cell (p := ⟨w.heap.size + 1, 7, none⟩) (by have := HB2.out.size; first | (simp; done) | (have := World.block_lt_of_cell? _ _ B7; exact this))).trans B7
      have HB3 : Hid (Below w.heap.size w u2) := Lib.hid (HB2.out.trans (hb2.mono HB2.out.size))
      clear hb2 HC2
      cases x2
      · have hq2 : (x.2.2.eq y.2.2) = false := HX2.out.symm
        have HT : Hid (X = false) := Lib.hid (by rw [HX.out, hq0, HQ1.out, hq2]; rfl)
        clear hq2
        go_wp2_with fail
        go_ret
        exact ⟨by rw [HT.out]; rfl, HB3.out⟩
      · have HQ2 : Hid ((x.2.2.eq y.2.2) = true) := Lib.hid HX2.out.symm
        have HT : Hid (X = true) := Lib.hid (by rw [HX.out, hq0, HQ1.out, HQ2.out]; rfl)
        go_wp2_with fail
        go_ret
        exact ⟨by rw [HT.out]; rfl, HB3.out⟩
set_option maxRecDepth 100000 in
set_option maxHeartbeats 8000000 in
theorem Same_any (ds ds' : List Da) (fs fs' : List De) (v v' : Value) (w : World) (hp : PrV w ds fs v) (hp' : PrV w ds' fs' v') : Calls Tryz.prog 7 #[v, v'] w (Grew (.bool (progEq ds fs ds' fs')) w) := by
  obtain ⟨v1, v2, rfl, h1, h2⟩ := hp
  obtain ⟨nd, ad, cd, -, rfl⟩ := sl_form h1
  obtain ⟨nf, af, cf, -, rfl⟩ := sl_form h2
  obtain ⟨v1', v2', rfl, h1', h2'⟩ := hp'
  obtain ⟨ndp, adp, cdp, -, rfl⟩ := sl_form h1'
  obtain ⟨nfp, afp, cfp, -, rfl⟩ := sl_form h2'
  obtain ⟨X, hX⟩ : ∃ X, X = progEq ds fs ds' fs' := ⟨_, rfl⟩
  have HX : Hid (X = (daEq ds ds' && deEq fs fs')) := Lib.hid hX
  rw [← hX]
  have HD := Lib.hid h1
  have HDp := Lib.hid h1'
  have HF := Lib.hid h2
  have HFp := Lib.hid h2'
  clear h1 h1' h2 h2' hX
  have HB0 : Hid (Below w.heap.size w ((w.alloc (.cells #[.slice ad nd cd, .slice af nf cf] 25)).alloc (.cells #[.slice adp ndp cdp, .slice afp nfp cfp] 25))) := Lib.hid (((Below.refl _ w).alloc (Nat.le_refl _) _).alloc (by simp) _)
  have hA := box2a w #[.slice ad nd cd, .slice af nf cf] #[.slice adp ndp cdp, .slice afp nfp cfp] 25 25
  have hB := box2b w #[.slice ad nd cd, .slice af nf cf] #[.slice adp ndp cdp, .slice afp nfp cfp] 25 25
  have A0 := hA 0 (.slice ad nd cd) rfl
  have A1 := hA 1 (.slice af nf cf) rfl
  have B0 := hB 0 (.slice adp ndp cdp) rfl
  have B1 := hB 1 (.slice afp nfp cfp) rfl
  clear hA hB
  have HC0 := eqlDa_any sameData_any ds ds' _ _ ((w.alloc (.cells #[.slice ad nd cd, .slice af nf cf] 25)).alloc (.cells #[.slice adp ndp cdp, .slice afp nfp cfp] 25)) (HD.out.mono HB0.out.size fun _ _ p q => DaIn.below HB0.out p q) (HDp.out.mono HB0.out.size fun _ _ p q => DaIn.below HB0.out p q)
  obtain ⟨x0, hx0⟩ : ∃ zz, zz = (daEq ds ds') := ⟨_, rfl⟩
  rw [← hx0] at HC0
  have HC0 := Lib.hid HC0
  have HX0 := Lib.hid hx0
  clear hx0
  go_enter Tryz.func7, Tryz.ntmps7
  go_wp2_with fail
  refine HC0.out.mono ?_
  rintro e u0 ⟨rfl, hb0⟩
  have A0 := (hb0.cell (p := ⟨w.heap.size, 0, none⟩) (by have := HB0.out.size; first | (simp; done) | (have := World.block_lt_of_cell? _ _ A0; exact this))).trans A0
  have A1 := (hb0.cell (p := ⟨w.heap.size, 1, none⟩) (by have := HB0.out.size; first | (simp; done) | (have := World.block_lt_of_cell? _ _ A1; exact this))).trans A1
  have B0 := (hb0.cell (p := ⟨w.heap.size + 1, 0, none⟩) (by have := HB0.out.size; first | (simp; done) | (have := World.block_lt_of_cell? _ _ B0; exact this))).trans B0
  have B1 := (hb0.cell (p := ⟨w.heap.size + 1, 1, none⟩) (by have := HB0.out.size; first | (simp; done) | (have := World.block_lt_of_cell? _ _ B1; exact this))).trans B1
  have HB1 : Hid (Below w.heap.size w u0) := Lib.hid (HB0.out.trans (hb0.mono HB0.out.size))
  clear hb0 HC0
  cases x0
  · have hq0 : (daEq ds ds') = false := HX0.out.symm
    have HT : Hid (X = false) := Lib.hid (by rw [HX.out, hq0]; rfl)
    clear hq0
    go_wp2_with fail
    go_ret
    exact ⟨by rw [HT.out]; rfl, HB1.out⟩
  · have HQ0 : Hid ((daEq ds ds') = true) := Lib.hid HX0.out.symm
    have HC1 := eqlDe_any sameDef_any fs fs' _ _ u0 (HF.out.mono HB1.out.size fun _ _ p q => DeIn.below HB1.out p q) (HFp.out.mono HB1.out.size fun _ _ p q => DeIn.below HB1.out p q)
    obtain ⟨x1, hx1⟩ : ∃ zz, zz = (deEq fs fs') := ⟨_, rfl⟩
    rw [← hx1] at HC1
    have HC1 := Lib.hid HC1
    have HX1 := Lib.hid hx1
    clear hx1
    go_wp2_with fail
    refine HC1.out.mono ?_
    rintro e u1 ⟨rfl, hb1⟩
    have A0 := (hb1.cell (p := ⟨w.heap.size, 0, none⟩) (by have := HB1.out.size; first | (simp; done) | (have := World.block_lt_of_cell? _ _ A0; exact this))).trans A0
    have A1 := (hb1.cell (p := ⟨w.heap.size, 1, none⟩) (by have := HB1.out.size; first | (simp; done) | (have := World.block_lt_of_cell? _ _ A1; exact this))).trans A1
    have B0 := (hb1.cell (p := ⟨w.heap.size + 1, 0, none⟩) (by have := HB1.out.size; first | (simp; done) | (have := World.block_lt_of_cell? _ _ B0; exact this))).trans B0
    have B1 := (hb1.cell (p := ⟨w.heap.size + 1, 1, none⟩) (by have := HB1.out.size; first | (simp; done) | (have := World.block_lt_of_cell? _ _ B1; exact this))).trans B1
    have HB2 : Hid (Below w.heap.size w u1) := Lib.hid (HB1.out.trans (hb1.mono HB1.out.size))
    clear hb1 HC1
    cases x1
    · have hq1 : (deEq fs fs') = false := HX1.out.symm
      have HT : Hid (X = false) := Lib.hid (by rw [HX.out, HQ0.out, hq1]; rfl)
      clear hq1
      go_wp2_with fail
      go_ret
      exact ⟨by rw [HT.out]; rfl, HB2.out⟩
    · have HQ1 : Hid ((deEq fs fs') = true) := Lib.hid HX1.out.symm
      have HT : Hid (X = true) := Lib.hid (by rw [HX.out, HQ0.out, HQ1.out]; rfl)
      go_wp2_with fail
      go_ret
      exact ⟨by rw [HT.out]; rfl, HB2.out⟩
end Go.Proofs.YtledjcplbldokaaGreatDoor
