/- slices.EqualFunc of two lists of gristmill/api.Step. Conditions: what is held against one another answers so. -/
import Derived.Test.YtoidogfnjpmceaaDoorGe0
import Derived.Deep.RegionHeld3
import Derived.Deep.DrawnRows
namespace Go.Proofs.YtoidogfnjpmceaaDoor
open Go.ChangeShapes Go.WideShapes Go.ChangeAt Go.RowKit
attribute [local go_sem ↓] Go.wp_at_zero Go.wp_at_succ

set_option maxRecDepth 100000 in
set_option maxHeartbeats 8000000 in
theorem eqfSt_any (m : Nat) (HE : ∀ e e' : St, e.cost ≤ m → ∀ (v v' : Value) (w : World), StV w e v → StV w e' v' → Calls Tryd.prog 68 #[v, v'] w (Grew (.bool (e.eq e')) w)) :
    ∀ f f' : St, f.cost ≤ m → f.wf true → f'.wf true → ∀ (v v' : Value) (w : World), (SlAt w v f.len fun b o => StIn w f b o 0) → (SlAt w v' f'.len fun b o => StIn w f' b o 0) →
    Calls Tryd.prog 67 #[v, v', .func (.func 68) #[] #[]] w (Grew (.bool (f.eq f')) w) := by
  intro f f' hcost hwf hwf' v v' w h h'
  have HE := Lib.hid HE
  obtain ⟨hn, ao, cap, rfl, -, hs⟩ := h
  obtain ⟨hn', ao', cap', rfl, -, hs'⟩ := h'
  obtain ⟨n, hnn⟩ : ∃ n, n = f.len := ⟨_, rfl⟩
  obtain ⟨n', hnn'⟩ : ∃ n, n = f'.len := ⟨_, rfl⟩
  have HN := Lib.hid hnn
  have HNp := Lib.hid hnn'
  have HIN0 : Hid (0 < f.len → ∃ b o, ao = some ⟨b, o, none⟩ ∧ b < w.heap.size ∧ StIn w f b o 0) := Lib.hid hs
  have HIN0p : Hid (0 < f'.len → ∃ b o, ao' = some ⟨b, o, none⟩ ∧ b < w.heap.size ∧ StIn w f' b o 0) := Lib.hid hs'
  rw [← hnn] at hn ⊢
  rw [← hnn'] at hn' ⊢
  have hx : (n : Int) ≤ 140737488355328 := by have : n ≤ 140737488355328 := hn; omega
  have hx' : (n' : Int) ≤ 140737488355328 := by have : n' ≤ 140737488355328 := hn'; omega
  obtain ⟨X, hX⟩ : ∃ X, X = f.eq f' := ⟨_, rfl⟩
  have HX := Lib.hid hX
  have HCO := Lib.hid hcost
  have HWF0 := Lib.hid hwf
  have HWF0p := Lib.hid hwf'
  by_cases hne : n = n'
  · subst hne
    rw [← hX]
    clear hs hs' hn hn' hnn hnn' hX hcost hwf hwf'
    have hnn : ((n : Int) == (n : Int)) = true := by simp
    go_enter Tryd.func67, Tryd.ntmps67
    go_wp2_with fail
    go_loopw [17] (fun vi wr => ∃ (i : Nat) (r rp : St), vi = .int .i64 (i : Int) ∧ i + r.len = n ∧ i + rp.len = n ∧ Hid (Below w.heap.size w wr) ∧ Hid (X = r.eq rp) ∧ Hid (r.cost ≤ m) ∧ Hid (0 < r.len → ∃ b o, ao = some ⟨b, o, none⟩ ∧ b < w.heap.size ∧ StIn w r b o i) ∧ Hid (0 < rp.len → ∃ b o, ao' = some ⟨b, o, none⟩ ∧ b < w.heap.size ∧ StIn w rp b o i) ∧ Hid (r.wf true) ∧ Hid (rp.wf true)) (fun vi _ => n + 1 - (intOf vi).toNat)
    case atStart => exact ⟨0, f, f', rfl, by rw [Nat.zero_add]; exact HN.out.symm, by rw [Nat.zero_add]; exact HNp.out.symm, Lib.hid (Below.refl _ _), HX, HCO, HIN0, HIN0p, HWF0, HWF0p⟩
    case round =>
      clear HX HCO HIN0 HIN0p HWF0 HWF0p
      obtain ⟨i, r, rp, rfl, hir, hirp, HB, HX, HCO, HIN, HINp, HWF, HWFp⟩ := hrel
      cases r with
      | nil =>
        cases rp with
        | nil =>
          simp only [St.len, Nat.add_zero] at hir
          have hii : ¬ (i : Int) < (n : Int) := by omega
          have HT : Hid (X = true) := Lib.hid (by rw [HX.out]; rfl)
          go_wp2_with fail
          go_ret
          exact ⟨by rw [HT.out]; rfl, HB.out⟩
        | step opp top nmp tp valsp altsp nump rp => simp only [St.len] at hir hirp; omega
        | br => exact absurd HWFp.out.1 (by simp)
      | br => exact absurd HWF.out.1 (by simp)
      | step op to nm t vals alts num r =>
        cases rp with
        | nil => simp only [St.len] at hir hirp; omega
        | br => exact absurd HWFp.out.1 (by simp)
        | step opp top nmp tp valsp altsp nump rp =>
          simp only [St.len] at hir hirp
          obtain ⟨b, o, rfl, hbw, ht⟩ := HIN.out (by simp only [St.len]; omega)
          obtain ⟨b', o', rfl, hbw', ht'⟩ := HINp.out (by simp only [St.len]; omega)
          obtain ⟨a1, n1, c1, a2, n2, c2, e0, e1, e2, e3, e4, e5, e6, e7, e8, hv, hr⟩ := st_first HWF.out ht
          obtain ⟨a1p, n1p, c1p, a2p, n2p, c2p, e0p, e1p, e2p, e3p, e4p, e5p, e6p, e7p, e8p, hvp, hrp⟩ := st_first HWFp.out ht'
          have hbel : ∀ k, wr.cell? ⟨b, k, none⟩ = w.cell? ⟨b, k, none⟩ := fun k => HB.out.cell (p := ⟨b, k, none⟩) hbw
          have hbel' : ∀ k, wr.cell? ⟨b', k, none⟩ = w.cell? ⟨b', k, none⟩ := fun k => HB.out.cell (p := ⟨b', k, none⟩) hbw'
          have e0' := (hbel _).trans e0
          have e1' := (hbel _).trans e1
          have e2' := (hbel _).trans e2
          have e3' := (hbel _).trans e3
          have e4' := (hbel _).trans e4
          have e5' := (hbel _).trans e5
          have e6' := (hbel _).trans e6
          have e7' := (hbel _).trans e7
          have e8' := (hbel _).trans e8
          have e0p' := ((Below.refl _ wr).alloc (Nat.le_refl _) (.cells #[.int .i64 op, .string to, .string nm, .int .i64 t.k, .string t.s, .int .i64 t.n, .slice a1 n1 c1, .slice a2 n2 c2, .int .i64 num] 29)).cell (p := ⟨b', _, none⟩) (Nat.lt_of_lt_of_le hbw' HB.out.size) |>.trans ((hbel' _).trans e0p)
          have e1p' := ((Below.refl _ wr).alloc (Nat.le_refl _) (.cells #[.int .i64 op, .string to, .string nm, .int .i64 t.k, .string t.s, .int .i64 t.n, .slice a1 n1 c1, .slice a2 n2 c2, .int .i64 num] 29)).cell (p := ⟨b', _, none⟩) (Nat.lt_of_lt_of_le hbw' HB.out.size) |>.trans ((hbel' _).trans e1p)
          have e2p' := ((Below.refl _ wr).alloc (Nat.le_refl _) (.cells #[.int .i64 op, .string to, .string nm, .int .i64 t.k, .string t.s, .int .i64 t.n, .slice a1 n1 c1, .slice a2 n2 c2, .int .i64 num] 29)).cell (p := ⟨b', _, none⟩) (Nat.lt_of_lt_of_le hbw' HB.out.size) |>.trans ((hbel' _).trans e2p)
          have e3p' := ((Below.refl _ wr).alloc (Nat.le_refl _) (.cells #[.int .i64 op, .string to, .string nm, .int .i64 t.k, .string t.s, .int .i64 t.n, .slice a1 n1 c1, .slice a2 n2 c2, .int .i64 num] 29)).cell (p := ⟨b', _, none⟩) (Nat.lt_of_lt_of_le hbw' HB.out.size) |>.trans ((hbel' _).trans e3p)
          have e4p' := ((Below.refl _ wr).alloc (Nat.le_refl _) (.cells #[.int .i64 op, .string to, .string nm, .int .i64 t.k, .string t.s, .int .i64 t.n, .slice a1 n1 c1, .slice a2 n2 c2, .int .i64 num] 29)).cell (p := ⟨b', _, none⟩) (Nat.lt_of_lt_of_le hbw' HB.out.size) |>.trans ((hbel' _).trans e4p)
          have e5p' := ((Below.refl _ wr).alloc (Nat.le_refl _) (.cells #[.int .i64 op, .string to, .string nm, .int .i64 t.k, .string t.s, .int .i64 t.n, .slice a1 n1 c1, .slice a2 n2 c2, .int .i64 num] 29)).cell (p := ⟨b', _, none⟩) (Nat.lt_of_lt_of_le hbw' HB.out.size) |>.trans ((hbel' _).trans e5p)
          have e6p' := ((Below.refl _ wr).alloc (Nat.le_refl _) (.cells #[.int .i64 op, .string to, .string nm, .int .i64 t.k, .string t.s, .int .i64 t.n, .slice a1 n1 c1, .slice a2 n2 c2, .int .i64 num] 29)).cell (p := ⟨b', _, none⟩) (Nat.lt_of_lt_of_le hbw' HB.out.size) |>.trans ((hbel' _).trans e6p)
          have e7p' := ((Below.refl _ wr).alloc (Nat.le_refl _) (.cells #[.int .i64 op, .string to, .string nm, .int .i64 t.k, .string t.s, .int .i64 t.n, .slice a1 n1 c1, .slice a2 n2 c2, .int .i64 num] 29)).cell (p := ⟨b', _, none⟩) (Nat.lt_of_lt_of_le hbw' HB.out.size) |>.trans ((hbel' _).trans e7p)
          have e8p' := ((Below.refl _ wr).alloc (Nat.le_refl _) (.cells #[.int .i64 op, .string to, .string nm, .int .i64 t.k, .string t.s, .int .i64 t.n, .slice a1 n1 c1, .slice a2 n2 c2, .int .i64 num] 29)).cell (p := ⟨b', _, none⟩) (Nat.lt_of_lt_of_le hbw' HB.out.size) |>.trans ((hbel' _).trans e8p)
          have hii : (i : Int) < (n : Int) := by omega
          have hi0 : (0 : Int) ≤ (i : Int) := by omega
          have HBA : Hid (Below w.heap.size w ((wr.alloc (.cells #[.int .i64 op, .string to, .string nm, .int .i64 t.k, .string t.s, .int .i64 t.n, .slice a1 n1 c1, .slice a2 n2 c2, .int .i64 num] 29)).alloc (.cells #[.int .i64 opp, .string top, .string nmp, .int .i64 tp.k, .string tp.s, .int .i64 tp.n, .slice a1p n1p c1p, .slice a2p n2p c2p, .int .i64 nump] 29))) := Lib.hid ((HB.out.alloc HB.out.size _).alloc (by have := HB.out.size; simp; omega) _)
          have HC := HE.out (.step op to nm t vals alts num .nil) (.step opp top nmp tp valsp altsp nump .nil) (by have := HCO.out; simp only [St.cost] at this ⊢; omega) _ _ ((wr.alloc (.cells #[.int .i64 op, .string to, .string nm, .int .i64 t.k, .string t.s, .int .i64 t.n, .slice a1 n1 c1, .slice a2 n2 c2, .int .i64 num] 29)).alloc (.cells #[.int .i64 opp, .string top, .string nmp, .int .i64 tp.k, .string tp.s, .int .i64 tp.n, .slice a1p n1p c1p, .slice a2p n2p c2p, .int .i64 nump] 29)) (hv.below HBA.out) (hvp.below HBA.out)
          have hXX := HX.out
          rw [St.eq_cons] at hXX
          obtain ⟨c, hc⟩ : ∃ c, c = (.step op to nm t vals alts num .nil : St).eq (.step opp top nmp tp valsp altsp nump .nil) := ⟨_, rfl⟩
          rw [← hc] at HC hXX
          have HXX := Lib.hid hXX
          have HC := Lib.hid HC
          have HRR := Lib.hid hr
          have HRRp := Lib.hid hrp
          clear hbel hbel' e0 e1 e2 e3 e4 e5 e6 e7 e8 e0p e1p e2p e3p e4p e5p e6p e7p e8p ht ht' hv hvp hr hrp hc hXX HX
          go_wp2_with fail
          refine HC.out.mono ?_
          rintro e w2 ⟨rfl, hb2⟩
          have HB2 : Hid (Below w.heap.size w w2) := Lib.hid (HBA.out.trans (hb2.mono HBA.out.size))
          clear hb2 HC
          cases c
          · have HT : Hid (X = false) := Lib.hid (by rw [HXX.out]; rfl)
            go_wp2_with fail
            go_ret
            exact ⟨by rw [HT.out]; rfl, HB2.out⟩
          · go_wp2_with fail
            go_roundw
            case rel => exact ⟨i + 1, r, rp, by go_num, by omega, by omega, HB2, Lib.hid (by simpa using HXX.out), Lib.hid (by have := HCO.out; simp only [St.cost] at this; omega), Lib.hid fun _ => ⟨b, o, rfl, hbw, HRR.out⟩, Lib.hid fun _ => ⟨b', o', rfl, hbw', HRRp.out⟩, Lib.hid ((stStep_wf HWF.out).2), Lib.hid ((stStep_wf HWFp.out).2)⟩
            case measure => simp [intOf]; omega
  · have hf : f.eq f' = false := by
      cases h : f.eq f'
      · rfl
      · have := St.eq_len h; omega
    have hnn2 : ((n : Int) == (n' : Int)) = false := by simp; omega
    rw [hf]
    clear hs hs' hn hn' hnn hnn' hX hf HX
    go_enter Tryd.func67, Tryd.ntmps67
    go_wp2_with fail
    go_ret
    exact ⟨rfl, Below.refl _ _⟩
end Go.Proofs.YtoidogfnjpmceaaDoor
