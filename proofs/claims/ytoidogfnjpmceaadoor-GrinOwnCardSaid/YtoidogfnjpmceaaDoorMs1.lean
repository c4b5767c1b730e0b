/- gristmillmake's counting of steps: it ends, and what it lets through is small. No conditions but the numbers' bounds. -/
import Derived.Test.YtoidogfnjpmceaaDoorMs0
import Derived.Deep.RegionHeld3
import Derived.Deep.DrawnRows
namespace Go.Proofs.YtoidogfnjpmceaaDoor
open Go.ChangeShapes Go.WideShapes Go.ChangeAt Go.RowKit

attribute [local go_sem ↓] Go.wp_at_zero Go.wp_at_succ
set_option maxRecDepth 100000 in
set_option maxHeartbeats 8000000 in
theorem mksteps_any (m : Nat) : ∀ (f : St), f.cost < m → ∀ (v : Value) (left deep : Int) (w : World), f.wf true → (SlAt w v f.len fun b o => StIn w f b o 0) → 0 ≤ left → left ≤ 4294967296 → 0 ≤ deep → deep ≤ 13 →
    Calls Tryd.prog 38 #[v, .int .i64 left, .int .i64 deep] w (fun e w' => ∃ r : Int, e = .returned (.int .i64 r) ∧ Below w.heap.size w w' ∧ -1125899906842624 ≤ r ∧ r ≤ 4294967296 ∧ (0 ≤ r → r + f.cost ≤ left ∧ deep + f.tall ≤ 12 ∧ f.brief)) := by
  induction m with
  | zero => intro f h; omega
  | succ m IH =>
    intro f hm v left deep w hwf hv hl1 hl2 hd1 hd2
    have HI := Lib.hid IH
    have HM := Lib.hid hm
    obtain ⟨hlen, ao, cap, rfl, -, hs⟩ := hv
    obtain ⟨n, hn⟩ : ∃ n, n = f.len := ⟨_, rfl⟩
    have HN := Lib.hid hn
    have HV := Lib.hid hs
    have HW := Lib.hid hwf
    rw [← hn] at hlen HV ⊢
    have hx : (n : Int) ≤ 140737488355328 := by have : n ≤ 140737488355328 := hlen; omega
    have HB := Lib.hid (Below.refl w.heap.size w)
    clear IH hm hs hlen hn hwf
    by_cases hdeep : (12 : Int) < deep
    · go_enter Tryd.func38, Tryd.ntmps38
      go_wp2_with fail
      go_ret
      exact ⟨-1, rfl, HB.out, by omega, by omega, fun h => by omega⟩
    · go_enter Tryd.func38, Tryd.ntmps38
      go_wp2_with fail
      go_loopw [1, 7] (fun vl vi wr => ∃ (i : Nat) (l : Int) (r : St), vl = .int .i64 l ∧ vi = .int .i64 (i : Int) ∧ i + r.len = n ∧ -1125899906842624 ≤ l ∧ l ≤ 4294967296 ∧ Hid (Below w.heap.size w wr) ∧ Hid (r.wf true ∧ r.cost ≤ f.cost ∧ (0 < r.len → ∃ b o, ao = some ⟨b, o, none⟩ ∧ b < w.heap.size ∧ StIn w r b o i)) ∧ Hid (0 ≤ l → l + f.cost ≤ left + r.cost ∧ (deep + r.tall ≤ 12 → deep + f.tall ≤ 12) ∧ (r.brief → f.brief))) (fun _ vi _ => n + 1 - (intOf vi).toNat)
      case atStart => exact ⟨0, left, f, rfl, rfl, by rw [Nat.zero_add]; exact HN.out.symm, by omega, by omega, HB, Lib.hid ⟨HW.out, Nat.le_refl _, fun h => HV.out (by have := HN.out; omega)⟩, Lib.hid fun _ => ⟨Int.le_refl _, id, id⟩⟩
      case round =>
        clear HB
        obtain ⟨i, l, r, rfl, rfl, hir, hl3, hl4, HB, HS, HF⟩ := hrel
        by_cases hl0 : l < 0
        · have hl0' : ¬ (0 : Int) ≤ l := by omega
          by_cases hii : (i : Int) < (n : Int)
          · go_wp2_with fail
            go_ret
            exact ⟨l, rfl, HB.out, by omega, by omega, fun h => by omega⟩
          · go_wp2_with fail
            go_ret
            exact ⟨l, rfl, HB.out, by omega, by omega, fun h => by omega⟩
        · have hl : (0 : Int) ≤ l := by omega
          cases r with
          | nil =>
            simp only [St.len, Nat.add_zero] at hir
            have hii : ¬ (i : Int) < (n : Int) := by omega
            go_wp2_with fail
            go_ret
            refine ⟨l, rfl, HB.out, by omega, by omega, fun h => ?_⟩
            obtain ⟨f1, f2, f3⟩ := HF.out h
            simp only [St.cost, St.tall, St.brief] at f1 f2 f3
            exact ⟨by omega, f2 (by omega), f3 trivial⟩
          | br => exact absurd HS.out.1.1 (by simp)
          | step op to nm t vals alts num r =>
            simp only [St.len] at hir
            obtain ⟨hwf, hco, hin⟩ := HS.out
            obtain ⟨b, o, rfl, hbw, ht⟩ := hin (by simp only [St.len]; omega)
            obtain ⟨hto, hnm, hts, v1, v2, z0, z1, z2, z3, z4, z5, hs1, hs2, hr⟩ := stIn_cells ht
            obtain ⟨hwa, hwr⟩ := stStep_wf hwf
            obtain ⟨hlen1, a1, c1, rfl, -, hs1⟩ := hs1
            obtain ⟨hlen2, a2, c2, rfl, -, hs2⟩ := hs2
            obtain ⟨n1, hn1⟩ : ∃ n, n = vals.length := ⟨_, rfl⟩
            obtain ⟨n2, hn2⟩ : ∃ n, n = alts.len := ⟨_, rfl⟩
            obtain ⟨ts, het⟩ : ∃ s, s = t.s := ⟨_, rfl⟩
            rw [← hn1] at hlen1 z4
            rw [← hn2] at hlen2 z5
            rw [← het] at z3 hts
            have hx1 : (n1 : Int) ≤ 140737488355328 := by have : n1 ≤ 140737488355328 := hlen1; omega
            have hx2 : (n2 : Int) ≤ 140737488355328 := by have : n2 ≤ 140737488355328 := hlen2; omega
            have hx3 : (to.size : Int) ≤ 140737488355328 := by have : to.size ≤ 140737488355328 := hto; omega
            have hx4 : (nm.size : Int) ≤ 140737488355328 := by have : nm.size ≤ 140737488355328 := hnm; omega
            have hx5 : (ts.size : Int) ≤ 140737488355328 := by have : ts.size ≤ 140737488355328 := hts; omega
            have HT := Lib.hid het
            have HN1 := Lib.hid hn1
            have HN2 := Lib.hid hn2
            have HV1 := Lib.hid hs1
            have HV2 := Lib.hid hs2
            have HWA := Lib.hid hwa
            have K0 := Lib.hid z1
            have K1 := Lib.hid z2
            have K2 := Lib.hid z3
            have K3 := Lib.hid z4
            have K4 := Lib.hid z5
            have HCO : Hid ((St.step op to nm t vals alts num r).cost ≤ f.cost) := Lib.hid hco
            have HREST : Hid (r.wf true ∧ r.cost ≤ f.cost ∧ (0 < r.len → ∃ b' o', some ⟨b, o, none⟩ = some (⟨b', o', none⟩ : Addr) ∧ b' < w.heap.size ∧ StIn w r b' o' (i + 1))) := Lib.hid ⟨hwr, by simp only [St.cost] at hco; omega, fun _ => ⟨b, o, rfl, hbw, hr⟩⟩
            have hii : (i : Int) < (n : Int) := by omega
            have hi0 : (0 : Int) ≤ (i : Int) := by omega
            clear HS hwf hco hin ht hto hnm hts z0 z1 z2 z3 z4 z5 hs1 hs2 hr hwa hwr hlen1 hlen2 hn1 hn2 het
            obtain ⟨l2, hl2e⟩ : ∃ l2, l2 = l - 1 - (n1 : Int) - (n2 : Int) := ⟨_, rfl⟩
            have k0 : wr.cell? ⟨b, o + i * 9 + 1, none⟩ = some (.string to) := (HB.out.cell (p := ⟨b, _, none⟩) hbw).trans K0.out
            have k1 : wr.cell? ⟨b, o + i * 9 + 2, none⟩ = some (.string nm) := (HB.out.cell (p := ⟨b, _, none⟩) hbw).trans K1.out
            have k2 : wr.cell? ⟨b, o + i * 9 + 3 + 1, none⟩ = some (.string ts) := (HB.out.cell (p := ⟨b, _, none⟩) hbw).trans K2.out
            have k3 : wr.cell? ⟨b, o + i * 9 + 6, none⟩ = some (.slice a1 n1 c1) := (HB.out.cell (p := ⟨b, _, none⟩) hbw).trans K3.out
            have k4 : wr.cell? ⟨b, o + i * 9 + 7, none⟩ = some (.slice a2 n2 c2) := (HB.out.cell (p := ⟨b, _, none⟩) hbw).trans K4.out
            go_wp2_with fail
            go_region_held3 (fun w' => w'.cell? ⟨b, o + i * 9 + 1, none⟩ = some (.string to) ∧ w'.cell? ⟨b, o + i * 9 + 2, none⟩ = some (.string nm) ∧ w'.cell? ⟨b, o + i * 9 + 3 + 1, none⟩ = some (.string ts) ∧ w'.cell? ⟨b, o + i * 9 + 6, none⟩ = some (.slice a1 n1 c1) ∧ w'.cell? ⟨b, o + i * 9 + 7, none⟩ = some (.slice a2 n2 c2)) (first | go_keep | (simp [*]; done)) (fail)
            rw [wrap64_i (n := l - 1) (by omega) (by omega), wrap64_i (n := l - 1 - (n1 : Int)) (by omega) (by omega), wrap64_i (n := l - 1 - (n1 : Int) - (n2 : Int)) (by omega) (by omega), ← hl2e]
            have hl2a : -1125899906842624 ≤ l2 := by omega
            have hl2b : l2 ≤ 4294967296 := by omega
            have HBD := Lib.hid (Below.drew HB.out)
            clear HB k0 k1 k2 k3 k4
            obtain ⟨wd, hwd⟩ : ∃ wd, wd = wr.drew := ⟨_, rfl⟩
            rw [← hwd] at HBD ⊢
            have HB := Lib.hid HBD.out
            have HL2 := Lib.hid hl2e
            clear hwd HBD hl2e
            have k0 : wd.cell? ⟨b, o + i * 9 + 1, none⟩ = some (.string to) := (HB.out.cell (p := ⟨b, _, none⟩) hbw).trans K0.out
            have k1 : wd.cell? ⟨b, o + i * 9 + 2, none⟩ = some (.string nm) := (HB.out.cell (p := ⟨b, _, none⟩) hbw).trans K1.out
            have k2 : wd.cell? ⟨b, o + i * 9 + 3 + 1, none⟩ = some (.string ts) := (HB.out.cell (p := ⟨b, _, none⟩) hbw).trans K2.out
            have k3 : wd.cell? ⟨b, o + i * 9 + 6, none⟩ = some (.slice a1 n1 c1) := (HB.out.cell (p := ⟨b, _, none⟩) hbw).trans K3.out
            have k4 : wd.cell? ⟨b, o + i * 9 + 7, none⟩ = some (.slice a2 n2 c2) := (HB.out.cell (p := ⟨b, _, none⟩) hbw).trans K4.out
            by_cases hb1 : (60 : Int) < (to.size : Int)
            · go_wp2_with fail
              go_ret
              exact ⟨-1, rfl, HB.out, by omega, by omega, fun h => by omega⟩
            by_cases hb2 : (60 : Int) < (nm.size : Int)
            · go_wp2_with fail
              go_ret
              exact ⟨-1, rfl, HB.out, by omega, by omega, fun h => by omega⟩
            by_cases hb3 : (60 : Int) < (ts.size : Int)
            · go_wp2_with fail
              go_ret
              exact ⟨-1, rfl, HB.out, by omega, by omega, fun h => by omega⟩
            go_wp2_with fail
            go_loopw [8] (fun vk wr => ∃ (k : Nat), vk = .int .i64 (k : Int) ∧ k ≤ n1 ∧ Hid (Below w.heap.size w wr) ∧ Hid (∀ j (h : j < vals.length), j < k → vals[j].s.size ≤ 60)) (fun vk _ => n1 + 1 - (intOf vk).toNat)
            case atStart => exact ⟨0, rfl, by omega, HB, Lib.hid fun j _ h => by omega⟩
            case round =>
              clear HB k0 k1 k2 k3 k4
              obtain ⟨k, rfl, hk, HB, HA⟩ := hrel
              have k0 : wr.cell? ⟨b, o + i * 9 + 1, none⟩ = some (.string to) := (HB.out.cell (p := ⟨b, _, none⟩) hbw).trans K0.out
              have k1 : wr.cell? ⟨b, o + i * 9 + 2, none⟩ = some (.string nm) := (HB.out.cell (p := ⟨b, _, none⟩) hbw).trans K1.out
              have k2 : wr.cell? ⟨b, o + i * 9 + 3 + 1, none⟩ = some (.string ts) := (HB.out.cell (p := ⟨b, _, none⟩) hbw).trans K2.out
              have k3 : wr.cell? ⟨b, o + i * 9 + 6, none⟩ = some (.slice a1 n1 c1) := (HB.out.cell (p := ⟨b, _, none⟩) hbw).trans K3.out
              have k4 : wr.cell? ⟨b, o + i * 9 + 7, none⟩ = some (.slice a2 n2 c2) := (HB.out.cell (p := ⟨b, _, none⟩) hbw).trans K4.out
              by_cases hgo : (k : Int) < (n1 : Int) ∧ 0 ≤ l2
              · obtain ⟨hk1, hk2⟩ := hgo
                have hk0 : (0 : Int) ≤ (k : Int) := by omega
                have hklt : k < vals.length := by have := HN1.out; omega
                obtain ⟨b3, o3, rfl, hb3w, ht3⟩ := HV1.out (by have := HN1.out; omega)
                obtain ⟨-, y1, -, -, y2, -⟩ := ht3 k hklt
                obtain ⟨s, hes⟩ : ∃ s, s = vals[k].s := ⟨_, rfl⟩
                rw [← hes] at y1 y2
                have HSS : Hid (∀ h : k < vals.length, s = vals[k].s) := Lib.hid fun _ => hes
                have hx6 : (s.size : Int) ≤ 140737488355328 := by have : s.size ≤ 140737488355328 := y2; omega
                have j1 : wr.cell? ⟨b3, o3 + k * 3 + 1, none⟩ = some (.string s) := (HB.out.cell (p := ⟨b3, _, none⟩) hb3w).trans y1
                clear ht3 y1 y2 hes hklt
                by_cases hsz : (60 : Int) < (s.size : Int)
                · go_wp2_with fail
                  go_ret
                  exact ⟨-1, rfl, HB.out, by omega, by omega, fun h => by omega⟩
                · go_wp2_with fail
                  go_roundw
                  case rel =>
                    refine ⟨k + 1, by go_num, by omega, HB, Lib.hid fun j hj h => ?_⟩
                    by_cases hji : j = k
                    · subst hji; have := HSS.out hj; rw [← this]; omega
                    · exact HA.out j hj (by omega)
                  case measure => simp [intOf]; omega
              · have HE : Hid (0 ≤ l2 → vlBrief vals) := Lib.hid fun h j hj => HA.out j hj (by have := HN1.out; omega)
                clear HA
                by_cases hk1 : (k : Int) < (n1 : Int)
                · have hk2 : ¬ 0 ≤ l2 := by omega
                  go_wp2_with fail
                  go_loopw [1, 9] (fun vl vk wr => ∃ (k : Nat) (l3 : Int) (r2 : St), vl = .int .i64 l3 ∧ vk = .int .i64 (k : Int) ∧ k + r2.len = n2 ∧ -1125899906842624 ≤ l3 ∧ l3 ≤ 4294967296 ∧ Hid (Below w.heap.size w wr) ∧ Hid (r2.wf false ∧ r2.cost ≤ alts.cost ∧ (0 < r2.len → ∃ b o, a2 = some ⟨b, o, none⟩ ∧ b < w.heap.size ∧ StIn w r2 b o k)) ∧ Hid (0 ≤ l3 → 0 ≤ l2 ∧ l3 + alts.cost ≤ l2 + r2.cost ∧ (deep + r2.tall ≤ 12 → deep + alts.tall ≤ 12) ∧ (r2.brief → alts.brief))) (fun _ vk _ => n2 + 1 - (intOf vk).toNat)
                  case atStart => exact ⟨0, l2, alts, rfl, rfl, by rw [Nat.zero_add]; exact HN2.out.symm, by omega, by omega, HB, Lib.hid ⟨HWA.out, Nat.le_refl _, fun h => HV2.out (by have := HN2.out; omega)⟩, Lib.hid fun h => ⟨h, Int.le_refl _, id, id⟩⟩
                  case round =>
                    clear HB k0 k1 k2 k3 k4
                    obtain ⟨k, l3, r2, rfl, rfl, hkr, hl3, hl4, HB, HS2, HF2⟩ := hrel
                    have k0 : wr.cell? ⟨b, o + i * 9 + 1, none⟩ = some (.string to) := (HB.out.cell (p := ⟨b, _, none⟩) hbw).trans K0.out
                    have k1 : wr.cell? ⟨b, o + i * 9 + 2, none⟩ = some (.string nm) := (HB.out.cell (p := ⟨b, _, none⟩) hbw).trans K1.out
                    have k2 : wr.cell? ⟨b, o + i * 9 + 3 + 1, none⟩ = some (.string ts) := (HB.out.cell (p := ⟨b, _, none⟩) hbw).trans K2.out
                    have k3 : wr.cell? ⟨b, o + i * 9 + 6, none⟩ = some (.slice a1 n1 c1) := (HB.out.cell (p := ⟨b, _, none⟩) hbw).trans K3.out
                    have k4 : wr.cell? ⟨b, o + i * 9 + 7, none⟩ = some (.slice a2 n2 c2) := (HB.out.cell (p := ⟨b, _, none⟩) hbw).trans K4.out
                    by_cases hl0 : l3 < 0
                    · have hl0' : ¬ (0 : Int) ≤ l3 := by omega
                      by_cases hkk : (k : Int) < (n2 : Int)
                      · go_wp2_with fail
                        go_roundw
                        case rel =>
                          refine ⟨i + 1, l3, r, rfl, by go_num, by omega, by omega, by omega, HB, HREST, Lib.hid fun hq0 => ?_⟩
                          exact absurd hq0 hl0'
                        case measure => simp [intOf]; omega
                      · go_wp2_with fail
                        go_roundw
                        case rel =>
                          refine ⟨i + 1, l3, r, rfl, by go_num, by omega, by omega, by omega, HB, HREST, Lib.hid fun hq0 => ?_⟩
                          exact absurd hq0 hl0'
                        case measure => simp [intOf]; omega
                    · have hl0' : (0 : Int) ≤ l3 := by omega
                      cases r2 with
                      | nil =>
                        simp only [St.len, Nat.add_zero] at hkr
                        have hkk : ¬ (k : Int) < (n2 : Int) := by omega
                        go_wp2_with fail
                        go_roundw
                        case rel =>
                          refine ⟨i + 1, l3, r, rfl, by go_num, by omega, by omega, by omega, HB, HREST, Lib.hid fun hq0 => ?_⟩
                          obtain ⟨e1, e2, e3, e4⟩ := HF2.out hq0
                          obtain ⟨f1, f2, f3⟩ := HF.out hl
                          have HE := HE.out e1
                          have := HN1.out
                          have := HN2.out
                          have := HT.out
                          have := HL2.out
                          simp only [St.cost, St.tall, St.brief] at e2 e3 e4 f1 f2 f3
                          exact ⟨by omega, fun h => f2 (by have := e3 (by omega); omega), fun h => f3 ⟨by omega, by omega, by rw [← HT.out]; omega, HE, e4 trivial, h⟩⟩
                        case measure => simp [intOf]; omega
                      | step => exact absurd HS2.out.1.1 (by simp)
                      | br take t2 num st2 r2 =>
                        simp only [St.len] at hkr
                        obtain ⟨hwf2, hco2, hin2⟩ := HS2.out
                        obtain ⟨b2, o2, rfl, hb2, ht2⟩ := hin2 (by simp only [St.len]; omega)
                        obtain ⟨hts2, v2, z1, z2, hs2, hr2⟩ := brIn_cells ht2
                        obtain ⟨hws2, hwr2⟩ := stBr_wf hwf2
                        have hkk : (k : Int) < (n2 : Int) := by omega
                        have hk0 : (0 : Int) ≤ (k : Int) := by omega
                        obtain ⟨ts2, het⟩ : ∃ s, s = t2.s := ⟨_, rfl⟩
                        rw [← het] at z1 hts2
                        have HT2 := Lib.hid het
                        have j1 : wr.cell? ⟨b2, o2 + k * 6 + 1 + 1, none⟩ = some (.string ts2) := (HB.out.cell (p := ⟨b2, _, none⟩) hb2).trans z1
                        have j2 : wr.cell? ⟨b2, o2 + k * 6 + 5, none⟩ = some v2 := (HB.out.cell (p := ⟨b2, _, none⟩) hb2).trans z2
                        have hx5 : (ts2.size : Int) ≤ 140737488355328 := by have : ts2.size ≤ 140737488355328 := hts2; omega
                        have HC := Lib.hid (HI.out st2 (by have := HM.out; have := HCO.out; simp only [St.cost] at hco2 this; omega) v2 l3 (deep + 1) wr hws2 (hs2.mono HB.out.size fun _ _ p q => StIn.below HB.out p q) (by omega) (by omega) (by omega) (by omega))
                        have HS3 : Hid (r2.wf false ∧ r2.cost ≤ alts.cost ∧ (0 < r2.len → ∃ b o, some ⟨b2, o2, none⟩ = some (⟨b, o, none⟩ : Addr) ∧ b < w.heap.size ∧ StIn w r2 b o (k + 1))) := Lib.hid ⟨hwr2, by simp only [St.cost] at hco2; omega, fun _ => ⟨b2, o2, rfl, hb2, hr2⟩⟩
                        clear HS2 hwf2 hco2 hin2 ht2 hs2 hr2 hws2 hwr2 hts2 het z1 z2
                        by_cases hname : (60 : Int) < (ts2.size : Int)
                        · go_wp2_with fail
                          go_ret
                          exact ⟨-1, rfl, HB.out, by omega, by omega, fun h => by omega⟩
                        · go_wp2_with fail
                          refine HC.out.mono ?_
                          rintro e w2 ⟨q, rfl, hbq, hq1, hq2, hq3⟩
                          have HB2 := Lib.hid (HB.out.trans (hbq.mono HB.out.size))
                          have HQ := Lib.hid hq3
                          clear hbq hq3 HC
                          go_wp2_with fail
                          go_roundw
                          case rel =>
                            refine ⟨k + 1, q, r2, rfl, by go_num, by omega, hq1, hq2, HB2, HS3, Lib.hid fun hq0 => ?_⟩
                            obtain ⟨e1, e2, e3, e4⟩ := HF2.out hl0'
                            obtain ⟨q1, q2, q3⟩ := HQ.out hq0
                            simp only [St.cost, St.tall, St.brief] at e2 e3 e4
                            exact ⟨e1, by omega, fun h => e3 (by omega), fun h => e4 ⟨by rw [← HT2.out]; omega, q3, h⟩⟩
                          case measure => simp [intOf]; omega
                · by_cases hk2 : 0 ≤ l2
                  · go_wp2_with fail
                    go_loopw [1, 9] (fun vl vk wr => ∃ (k : Nat) (l3 : Int) (r2 : St), vl = .int .i64 l3 ∧ vk = .int .i64 (k : Int) ∧ k + r2.len = n2 ∧ -1125899906842624 ≤ l3 ∧ l3 ≤ 4294967296 ∧ Hid (Below w.heap.size w wr) ∧ Hid (r2.wf false ∧ r2.cost ≤ alts.cost ∧ (0 < r2.len → ∃ b o, a2 = some ⟨b, o, none⟩ ∧ b < w.heap.size ∧ StIn w r2 b o k)) ∧ Hid (0 ≤ l3 → 0 ≤ l2 ∧ l3 + alts.cost ≤ l2 + r2.cost ∧ (deep + r2.tall ≤ 12 → deep + alts.tall ≤ 12) ∧ (r2.brief → alts.brief))) (fun _ vk _ => n2 + 1 - (intOf vk).toNat)
                    case atStart => exact ⟨0, l2, alts, rfl, rfl, by rw [Nat.zero_add]; exact HN2.out.symm, by omega, by omega, HB, Lib.hid ⟨HWA.out, Nat.le_refl _, fun h => HV2.out (by have := HN2.out; omega)⟩, Lib.hid fun h => ⟨h, Int.le_refl _, id, id⟩⟩
                    case round =>
                      clear HB k0 k1 k2 k3 k4
                      obtain ⟨k, l3, r2, rfl, rfl, hkr, hl3, hl4, HB, HS2, HF2⟩ := hrel
                      have k0 : wr.cell? ⟨b, o + i * 9 + 1, none⟩ = some (.string to) := (HB.out.cell (p := ⟨b, _, none⟩) hbw).trans K0.out
                      have k1 : wr.cell? ⟨b, o + i * 9 + 2, none⟩ = some (.string nm) := (HB.out.cell (p := ⟨b, _, none⟩) hbw).trans K1.out
                      have k2 : wr.cell? ⟨b, o + i * 9 + 3 + 1, none⟩ = some (.string ts) := (HB.out.cell (p := ⟨b, _, none⟩) hbw).trans K2.out
                      have k3 : wr.cell? ⟨b, o + i * 9 + 6, none⟩ = some (.slice a1 n1 c1) := (HB.out.cell (p := ⟨b, _, none⟩) hbw).trans K3.out
                      have k4 : wr.cell? ⟨b, o + i * 9 + 7, none⟩ = some (.slice a2 n2 c2) := (HB.out.cell (p := ⟨b, _, none⟩) hbw).trans K4.out
                      by_cases hl0 : l3 < 0
                      · have hl0' : ¬ (0 : Int) ≤ l3 := by omega
                        by_cases hkk : (k : Int) < (n2 : Int)
                        · go_wp2_with fail
                          go_roundw
                          case rel =>
                            refine ⟨i + 1, l3, r, rfl, by go_num, by omega, by omega, by omega, HB, HREST, Lib.hid fun hq0 => ?_⟩
                            exact absurd hq0 hl0'
                          case measure => simp [intOf]; omega
                        · go_wp2_with fail
                          go_roundw
                          case rel =>
                            refine ⟨i + 1, l3, r, rfl, by go_num, by omega, by omega, by omega, HB, HREST, Lib.hid fun hq0 => ?_⟩
                            exact absurd hq0 hl0'
                          case measure => simp [intOf]; omega
                      · have hl0' : (0 : Int) ≤ l3 := by omega
                        cases r2 with
                        | nil =>
                          simp only [St.len, Nat.add_zero] at hkr
                          have hkk : ¬ (k : Int) < (n2 : Int) := by omega
                          go_wp2_with fail
                          go_roundw
                          case rel =>
                            refine ⟨i + 1, l3, r, rfl, by go_num, by omega, by omega, by omega, HB, HREST, Lib.hid fun hq0 => ?_⟩
                            obtain ⟨e1, e2, e3, e4⟩ := HF2.out hq0
                            obtain ⟨f1, f2, f3⟩ := HF.out hl
                            have HE := HE.out e1
                            have := HN1.out
                            have := HN2.out
                            have := HT.out
                            have := HL2.out
                            simp only [St.cost, St.tall, St.brief] at e2 e3 e4 f1 f2 f3
                            exact ⟨by omega, fun h => f2 (by have := e3 (by omega); omega), fun h => f3 ⟨by omega, by omega, by rw [← HT.out]; omega, HE, e4 trivial, h⟩⟩
                          case measure => simp [intOf]; omega
                        | step => exact absurd HS2.out.1.1 (by simp)
                        | br take t2 num st2 r2 =>
                          simp only [St.len] at hkr
                          obtain ⟨hwf2, hco2, hin2⟩ := HS2.out
                          obtain ⟨b2, o2, rfl, hb2, ht2⟩ := hin2 (by simp only [St.len]; omega)
                          obtain ⟨hts2, v2, z1, z2, hs2, hr2⟩ := brIn_cells ht2
                          obtain ⟨hws2, hwr2⟩ := stBr_wf hwf2
                          have hkk : (k : Int) < (n2 : Int) := by omega
                          have hk0 : (0 : Int) ≤ (k : Int) := by omega
                          obtain ⟨ts2, het⟩ : ∃ s, s = t2.s := ⟨_, rfl⟩
                          rw [← het] at z1 hts2
                          have HT2 := Lib.hid het
                          have j1 : wr.cell? ⟨b2, o2 + k * 6 + 1 + 1, none⟩ = some (.string ts2) := (HB.out.cell (p := ⟨b2, _, none⟩) hb2).trans z1
                          have j2 : wr.cell? ⟨b2, o2 + k * 6 + 5, none⟩ = some v2 := (HB.out.cell (p := ⟨b2, _, none⟩) hb2).trans z2
                          have hx5 : (ts2.size : Int) ≤ 140737488355328 := by have : ts2.size ≤ 140737488355328 := hts2; omega
                          have HC := Lib.hid (HI.out st2 (by have := HM.out; have := HCO.out; simp only [St.cost] at hco2 this; omega) v2 l3 (deep + 1) wr hws2 (hs2.mono HB.out.size fun _ _ p q => StIn.below HB.out p q) (by omega) (by omega) (by omega) (by omega))
                          have HS3 : Hid (r2.wf false ∧ r2.cost ≤ alts.cost ∧ (0 < r2.len → ∃ b o, some ⟨b2, o2, none⟩ = some (⟨b, o, none⟩ : Addr) ∧ b < w.heap.size ∧ StIn w r2 b o (k + 1))) := Lib.hid ⟨hwr2, by simp only [St.cost] at hco2; omega, fun _ => ⟨b2, o2, rfl, hb2, hr2⟩⟩
                          clear HS2 hwf2 hco2 hin2 ht2 hs2 hr2 hws2 hwr2 hts2 het z1 z2
                          by_cases hname : (60 : Int) < (ts2.size : Int)
                          · go_wp2_with fail
                            go_ret
                            exact ⟨-1, rfl, HB.out, by omega, by omega, fun h => by omega⟩
                          · go_wp2_with fail
                            refine HC.out.mono ?_
                            rintro e w2 ⟨q, rfl, hbq, hq1, hq2, hq3⟩
                            have HB2 := Lib.hid (HB.out.trans (hbq.mono HB.out.size))
                            have HQ := Lib.hid hq3
                            clear hbq hq3 HC
                            go_wp2_with fail
                            go_roundw
                            case rel =>
                              refine ⟨k + 1, q, r2, rfl, by go_num, by omega, hq1, hq2, HB2, HS3, Lib.hid fun hq0 => ?_⟩
                              obtain ⟨e1, e2, e3, e4⟩ := HF2.out hl0'
                              obtain ⟨q1, q2, q3⟩ := HQ.out hq0
                              simp only [St.cost, St.tall, St.brief] at e2 e3 e4
                              exact ⟨e1, by omega, fun h => e3 (by omega), fun h => e4 ⟨by rw [← HT2.out]; omega, q3, h⟩⟩
                            case measure => simp [intOf]; omega
                  · go_wp2_with fail
                    go_loopw [1, 9] (fun vl vk wr => ∃ (k : Nat) (l3 : Int) (r2 : St), vl = .int .i64 l3 ∧ vk = .int .i64 (k : Int) ∧ k + r2.len = n2 ∧ -1125899906842624 ≤ l3 ∧ l3 ≤ 4294967296 ∧ Hid (Below w.heap.size w wr) ∧ Hid (r2.wf false ∧ r2.cost ≤ alts.cost ∧ (0 < r2.len → ∃ b o, a2 = some ⟨b, o, none⟩ ∧ b < w.heap.size ∧ StIn w r2 b o k)) ∧ Hid (0 ≤ l3 → 0 ≤ l2 ∧ l3 + alts.cost ≤ l2 + r2.cost ∧ (deep + r2.tall ≤ 12 → deep + alts.tall ≤ 12) ∧ (r2.brief → alts.brief))) (fun _ vk _ => n2 + 1 - (intOf vk).toNat)
                    case atStart => exact ⟨0, l2, alts, rfl, rfl, by rw [Nat.zero_add]; exact HN2.out.symm, by omega, by omega, HB, Lib.hid ⟨HWA.out, Nat.le_refl _, fun h => HV2.out (by have := HN2.out; omega)⟩, Lib.hid fun h => ⟨h, Int.le_refl _, id, id⟩⟩
                    case round =>
                      clear HB k0 k1 k2 k3 k4
                      obtain ⟨k, l3, r2, rfl, rfl, hkr, hl3, hl4, HB, HS2, HF2⟩ := hrel
                      have k0 : wr.cell? ⟨b, o + i * 9 + 1, none⟩ = some (.string to) := (HB.out.cell (p := ⟨b, _, none⟩) hbw).trans K0.out
                      have k1 : wr.cell? ⟨b, o + i * 9 + 2, none⟩ = some (.string nm) := (HB.out.cell (p := ⟨b, _, none⟩) hbw).trans K1.out
                      have k2 : wr.cell? ⟨b, o + i * 9 + 3 + 1, none⟩ = some (.string ts) := (HB.out.cell (p := ⟨b, _, none⟩) hbw).trans K2.out
                      have k3 : wr.cell? ⟨b, o + i * 9 + 6, none⟩ = some (.slice a1 n1 c1) := (HB.out.cell (p := ⟨b, _, none⟩) hbw).trans K3.out
                      have k4 : wr.cell? ⟨b, o + i * 9 + 7, none⟩ = some (.slice a2 n2 c2) := (HB.out.cell (p := ⟨b, _, none⟩) hbw).trans K4.out
                      by_cases hl0 : l3 < 0
                      · have hl0' : ¬ (0 : Int) ≤ l3 := by omega
                        by_cases hkk : (k : Int) < (n2 : Int)
                        · go_wp2_with fail
                          go_roundw
                          case rel =>
                            refine ⟨i + 1, l3, r, rfl, by go_num, by omega, by omega, by omega, HB, HREST, Lib.hid fun hq0 => ?_⟩
                            exact absurd hq0 hl0'
                          case measure => simp [intOf]; omega
                        · go_wp2_with fail
                          go_roundw
                          case rel =>
                            refine ⟨i + 1, l3, r, rfl, by go_num, by omega, by omega, by omega, HB, HREST, Lib.hid fun hq0 => ?_⟩
                            exact absurd hq0 hl0'
                          case measure => simp [intOf]; omega
                      · have hl0' : (0 : Int) ≤ l3 := by omega
                        cases r2 with
                        | nil =>
                          simp only [St.len, Nat.add_zero] at hkr
                          have hkk : ¬ (k : Int) < (n2 : Int) := by omega
                          go_wp2_with fail
                          go_roundw
                          case rel =>
                            refine ⟨i + 1, l3, r, rfl, by go_num, by omega, by omega, by omega, HB, HREST, Lib.hid fun hq0 => ?_⟩
                            obtain ⟨e1, e2, e3, e4⟩ := HF2.out hq0
                            obtain ⟨f1, f2, f3⟩ := HF.out hl
                            have HE := HE.out e1
                            have := HN1.out
                            have := HN2.out
                            have := HT.out
                            have := HL2.out
                            simp only [St.cost, St.tall, St.brief] at e2 e3 e4 f1 f2 f3
                            exact ⟨by omega, fun h => f2 (by have := e3 (by omega); omega), fun h => f3 ⟨by omega, by omega, by rw [← HT.out]; omega, HE, e4 trivial, h⟩⟩
                          case measure => simp [intOf]; omega
                        | step => exact absurd HS2.out.1.1 (by simp)
                        | br take t2 num st2 r2 =>
                          simp only [St.len] at hkr
                          obtain ⟨hwf2, hco2, hin2⟩ := HS2.out
                          obtain ⟨b2, o2, rfl, hb2, ht2⟩ := hin2 (by simp only [St.len]; omega)
                          obtain ⟨hts2, v2, z1, z2, hs2, hr2⟩ := brIn_cells ht2
                          obtain ⟨hws2, hwr2⟩ := stBr_wf hwf2
                          have hkk : (k : Int) < (n2 : Int) := by omega
                          have hk0 : (0 : Int) ≤ (k : Int) := by omega
                          obtain ⟨ts2, het⟩ : ∃ s, s = t2.s := ⟨_, rfl⟩
                          rw [← het] at z1 hts2
                          have HT2 := Lib.hid het
                          have j1 : wr.cell? ⟨b2, o2 + k * 6 + 1 + 1, none⟩ = some (.string ts2) := (HB.out.cell (p := ⟨b2, _, none⟩) hb2).trans z1
                          have j2 : wr.cell? ⟨b2, o2 + k * 6 + 5, none⟩ = some v2 := (HB.out.cell (p := ⟨b2, _, none⟩) hb2).trans z2
                          have hx5 : (ts2.size : Int) ≤ 140737488355328 := by have : ts2.size ≤ 140737488355328 := hts2; omega
                          have HC := Lib.hid (HI.out st2 (by have := HM.out; have := HCO.out; simp only [St.cost] at hco2 this; omega) v2 l3 (deep + 1) wr hws2 (hs2.mono HB.out.size fun _ _ p q => StIn.below HB.out p q) (by omega) (by omega) (by omega) (by omega))
                          have HS3 : Hid (r2.wf false ∧ r2.cost ≤ alts.cost ∧ (0 < r2.len → ∃ b o, some ⟨b2, o2, none⟩ = some (⟨b, o, none⟩ : Addr) ∧ b < w.heap.size ∧ StIn w r2 b o (k + 1))) := Lib.hid ⟨hwr2, by simp only [St.cost] at hco2; omega, fun _ => ⟨b2, o2, rfl, hb2, hr2⟩⟩
                          clear HS2 hwf2 hco2 hin2 ht2 hs2 hr2 hws2 hwr2 hts2 het z1 z2
                          by_cases hname : (60 : Int) < (ts2.size : Int)
                          · go_wp2_with fail
                            go_ret
                            exact ⟨-1, rfl, HB.out, by omega, by omega, fun h => by omega⟩
                          · go_wp2_with fail
                            refine HC.out.mono ?_
                            rintro e w2 ⟨q, rfl, hbq, hq1, hq2, hq3⟩
                            have HB2 := Lib.hid (HB.out.trans (hbq.mono HB.out.size))
                            have HQ := Lib.hid hq3
                            clear hbq hq3 HC
                            go_wp2_with fail
                            go_roundw
                            case rel =>
                              refine ⟨k + 1, q, r2, rfl, by go_num, by omega, hq1, hq2, HB2, HS3, Lib.hid fun hq0 => ?_⟩
                              obtain ⟨e1, e2, e3, e4⟩ := HF2.out hl0'
                              obtain ⟨q1, q2, q3⟩ := HQ.out hq0
                              simp only [St.cost, St.tall, St.brief] at e2 e3 e4
                              exact ⟨e1, by omega, fun h => e3 (by omega), fun h => e4 ⟨by rw [← HT2.out]; omega, q3, h⟩⟩
                            case measure => simp [intOf]; omega
end Go.Proofs.YtoidogfnjpmceaaDoor
