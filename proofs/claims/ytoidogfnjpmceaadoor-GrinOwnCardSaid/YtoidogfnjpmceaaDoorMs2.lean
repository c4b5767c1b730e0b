/- gristmillmake.Funcs: what it lets through is small. No conditions but the number's bounds. -/
import Derived.Test.YtoidogfnjpmceaaDoorMs1
namespace Go.Proofs.YtoidogfnjpmceaaDoor
open Go.ChangeShapes Go.WideShapes Go.ChangeAt Go.RowKit

def fnCost : List Fn → Nat
  | [] => 0
  | x :: r => x.params.length + x.steps.cost + fnCost r
def fnB (x : Fn) : Prop := x.nm.size ≤ 60 ∧ (∀ i (h : i < x.params.length), x.params[i].size ≤ 60) ∧ x.steps.tall ≤ 12 ∧ x.steps.brief
/-- What Funcs lets through. -/
structure FnsP (l : List Fn) (most : Int) : Prop where
  length : l.length ≤ 12
  cost : (fnCost l : Int) ≤ most
  brief : ∀ j (h : j < l.length), fnB l[j]
def FnsRet (l : List Fn) (most : Int) (w : World) (e : Ending) (w' : World) : Prop := ∃ x : Bool, e = .returned (.bool x) ∧ Below w.heap.size w w' ∧ (x = true → FnsP l most)
theorem fnsRet_no {l : List Fn} {most : Int} {w w' : World} {e : Ending} (h : e = .returned (.bool false)) (hb : Below w.heap.size w w') : FnsRet l most w e w' := ⟨false, h, hb, fun h => by cases h⟩
theorem fnCost_drop {l : List Fn} {i : Nat} (h : i < l.length) : fnCost (l.drop i) = l[i].params.length + l[i].steps.cost + fnCost (l.drop (i + 1)) := by
  rw [List.drop_eq_getElem_cons h]; rfl

attribute [local go_sem ↓] Go.wp_at_zero Go.wp_at_succ
set_option maxRecDepth 100000 in
set_option maxHeartbeats 8000000 in
theorem funcs_any (fs : List Fn) (v : Value) (most : Int) (w : World) (hv : SlAt w v fs.length fun b o => FnIn w fs b o) (hm1 : 0 ≤ most) (hm2 : most ≤ 4294967296) :
    Calls Tryd.prog 18 #[v, .int .i64 most] w (FnsRet fs most w) := by
  obtain ⟨hlen, ao, cap, rfl, -, hs⟩ := hv
  obtain ⟨n, hn⟩ : ∃ n, n = fs.length := ⟨_, rfl⟩
  have HN := Lib.hid hn
  have HV := Lib.hid hs
  rw [← hn] at hlen HV ⊢
  have hx : (n : Int) ≤ 140737488355328 := by have : n ≤ 140737488355328 := hlen; omega
  have HB := Lib.hid (Below.refl w.heap.size w)
  clear hs hlen hn
  by_cases hfew : (12 : Int) < (n : Int)
  · go_enter Tryd.func18, Tryd.ntmps18
    go_wp2_with fail
    go_ret
    exact fnsRet_no rfl HB.out
  · go_enter Tryd.func18, Tryd.ntmps18
    go_wp2_with fail
    go_loopw [5, 6] (fun vl vi wr => ∃ (i : Nat) (l : Int), vl = .int .i64 l ∧ vi = .int .i64 (i : Int) ∧ i ≤ n ∧ -1125899906842624 ≤ l ∧ l ≤ 4294967296 ∧ Hid (Below w.heap.size w wr) ∧ Hid (0 ≤ l → l + fnCost fs ≤ most + fnCost (fs.drop i) ∧ ∀ j (h : j < fs.length), j < i → fnB fs[j])) (fun _ vi _ => n + 1 - (intOf vi).toNat)
    case atStart => exact ⟨0, most, rfl, rfl, by omega, by omega, by omega, HB, Lib.hid fun _ => ⟨Int.le_refl _, fun j _ h => by omega⟩⟩
    case round =>
      clear HB
      obtain ⟨i, l, rfl, rfl, hin, hl3, hl4, HB, HF⟩ := hrel
      by_cases hl0 : l < 0
      · have hl0' : ¬ (0 : Int) ≤ l := by omega
        have hld : decide (0 ≤ l) = false := decide_eq_false hl0'
        by_cases hii : (i : Int) < (n : Int)
        · go_wp2_with fail
          go_ret
          exact fnsRet_no rfl HB.out
        · go_wp2_with fail
          go_ret
          exact fnsRet_no rfl HB.out
      · have hl : (0 : Int) ≤ l := by omega
        have hld : decide (0 ≤ l) = true := decide_eq_true hl
        by_cases hii : (i : Int) < (n : Int)
        · have hi0 : (0 : Int) ≤ (i : Int) := by omega
          have hilt : i < fs.length := by have := HN.out; omega
          obtain ⟨b, o, rfl, hbw, ht⟩ := HV.out (by have := HN.out; omega)
          obtain ⟨z0, hnm, ⟨v1, z1, hs1⟩, v2, z2, hwf, hs2⟩ := ht i hilt
          obtain ⟨hlen1, a1, c1, rfl, -, hs1⟩ := hs1
          obtain ⟨nm, ps, ss, he⟩ : ∃ nm ps ss, fs[i] = Fn.mk nm ps ss := ⟨_, _, _, rfl⟩
          simp only [he] at z0 hnm z1 hlen1 hs1 hwf hs2
          obtain ⟨n1, hn1⟩ : ∃ n, n = ps.length := ⟨_, rfl⟩
          rw [← hn1] at hlen1 z1
          have hx1 : (n1 : Int) ≤ 140737488355328 := by have : n1 ≤ 140737488355328 := hlen1; omega
          have hx2 : (nm.size : Int) ≤ 140737488355328 := by have : nm.size ≤ 140737488355328 := hnm; omega
          have HE : Hid (∀ h : i < fs.length, fs[i] = ⟨nm, ps, ss⟩) := Lib.hid fun _ => he
          have HN1 := Lib.hid hn1
          have HV1 := Lib.hid hs1
          have HW2 := Lib.hid hwf
          have HS2 := Lib.hid hs2
          have K0 := Lib.hid z0
          have K1 := Lib.hid z1
          have K2 := Lib.hid z2
          clear ht z0 z1 z2 hnm hs1 hs2 hwf hlen1 hn1 he hilt
          have k0 : wr.cell? ⟨b, o + i * 3, none⟩ = some (.string nm) := (HB.out.cell (p := ⟨b, _, none⟩) hbw).trans K0.out
          have k1 : wr.cell? ⟨b, o + i * 3 + 1, none⟩ = some (.slice a1 n1 c1) := (HB.out.cell (p := ⟨b, _, none⟩) hbw).trans K1.out
          have k2 : wr.cell? ⟨b, o + i * 3 + 2, none⟩ = some v2 := (HB.out.cell (p := ⟨b, _, none⟩) hbw).trans K2.out
          go_wp2_with fail
          go_loopw [7] (fun vk wr => ∃ (k : Nat), vk = .int .i64 (k : Int) ∧ k ≤ n1 ∧ Hid (Below w.heap.size w wr) ∧ Hid (∀ j (h : j < ps.length), j < k → ps[j].size ≤ 60)) (fun vk _ => n1 + 1 - (intOf vk).toNat)
          case atStart => exact ⟨0, rfl, by omega, HB, Lib.hid fun j _ h => by omega⟩
          case round =>
            clear HB k0 k1 k2
            obtain ⟨k, rfl, hk, HB, HA⟩ := hrel
            have k0 : wr.cell? ⟨b, o + i * 3, none⟩ = some (.string nm) := (HB.out.cell (p := ⟨b, _, none⟩) hbw).trans K0.out
            have k1 : wr.cell? ⟨b, o + i * 3 + 1, none⟩ = some (.slice a1 n1 c1) := (HB.out.cell (p := ⟨b, _, none⟩) hbw).trans K1.out
            have k2 : wr.cell? ⟨b, o + i * 3 + 2, none⟩ = some v2 := (HB.out.cell (p := ⟨b, _, none⟩) hbw).trans K2.out
            by_cases hk1 : (k : Int) < (n1 : Int)
            · have hk0 : (0 : Int) ≤ (k : Int) := by omega
              have hklt : k < ps.length := by have := HN1.out; omega
              obtain ⟨b3, o3, rfl, hb3w, ht3⟩ := HV1.out (by have := HN1.out; omega)
              obtain ⟨y1, y2⟩ := ht3 k hklt
              obtain ⟨s, hes⟩ : ∃ s, s = ps[k] := ⟨_, rfl⟩
              rw [← hes] at y1 y2
              have HSS : Hid (∀ h : k < ps.length, s = ps[k]) := Lib.hid fun _ => hes
              have hx6 : (s.size : Int) ≤ 140737488355328 := by have : s.size ≤ 140737488355328 := y2; omega
              have j1 : wr.cell? ⟨b3, o3 + k, none⟩ = some (.string s) := (HB.out.cell (p := ⟨b3, _, none⟩) hb3w).trans y1
              clear ht3 y1 y2 hes hklt
              by_cases hsz : (60 : Int) < (s.size : Int)
              · go_wp2_with fail
                go_ret
                exact fnsRet_no rfl HB.out
              · go_wp2_with fail
                go_roundw
                case rel =>
                  refine ⟨k + 1, by go_num, by omega, HB, Lib.hid fun j hj h => ?_⟩
                  by_cases hji : j = k
                  · subst hji; have := HSS.out hj; rw [← this]; omega
                  · exact HA.out j hj (by omega)
                case measure => simp [intOf]; omega
            · by_cases hb1 : (60 : Int) < (nm.size : Int)
              · go_wp2_with fail
                go_ret
                exact fnsRet_no rfl HB.out
              by_cases hb2 : l - (n1 : Int) < 0
              · go_wp2_with fail
                go_ret
                exact fnsRet_no rfl HB.out
              have HC := Lib.hid (mksteps_any (ss.cost + 1) ss (Nat.lt_succ_self _) v2 (l - (n1 : Int)) 0 wr HW2.out (HS2.out.mono HB.out.size fun _ _ p q => StIn.below HB.out p q) (by omega) (by omega) (by omega) (by omega))
              go_wp2_with fail
              refine HC.out.mono ?_
              rintro e w2 ⟨q, rfl, hbq, hq1, hq2, hq3⟩
              have HB2 := Lib.hid (HB.out.trans (hbq.mono HB.out.size))
              have HQ := Lib.hid hq3
              clear hbq hq3 HC
              go_wp2_with fail
              go_roundw
              case rel =>
                refine ⟨i + 1, q, rfl, by go_num, by omega, hq1, hq2, HB2, Lib.hid fun hq0 => ?_⟩
                obtain ⟨f1, f2⟩ := HF.out hl
                obtain ⟨q1, q2, q3⟩ := HQ.out hq0
                have hilt : i < fs.length := by have := HN.out; omega
                rw [fnCost_drop hilt, HE.out hilt] at f1
                have := HN1.out
                simp only at f1
                refine ⟨by omega, fun j hj h => ?_⟩
                by_cases hji : j = i
                · subst hji
                  rw [HE.out hj]
                  exact ⟨by show nm.size ≤ 60; omega, fun j' hj' => HA.out j' hj' (by simp only at hj'; omega), by show ss.tall ≤ 12; omega, q3⟩
                · exact f2 j hj (by omega)
              case measure => simp [intOf]; omega
        · go_wp2_with fail
          go_ret
          refine ⟨true, by first | rfl | simp [hl], HB.out, fun _ => ?_⟩
          obtain ⟨f1, f2⟩ := HF.out hl
          have hnn := HN.out
          have hdr : fs.drop i = [] := List.drop_eq_nil_of_le (by omega)
          rw [hdr] at f1
          simp only [fnCost] at f1
          exact ⟨by omega, by omega, fun j hj => f2 j hj (by omega)⟩
end Go.Proofs.YtoidogfnjpmceaaDoor
