/- grin.fits, isWithin, isBounded: yes of functions that are not too great. Conditions: their parts, their levels. -/
import Derived.Test.YtoidogfnjpmceaaDoorMs2
import Derived.StillTailTactics
namespace Go.Proofs.YtoidogfnjpmceaaDoor
open Go.ChangeShapes Go.WideShapes Go.ChangeAt Go.RowKit

theorem gb_refl (w : World) (row : Option Nat) : w.grownBy w row := ⟨rfl, rfl, rfl, Nat.le_refl _, fun _ _ _ => rfl⟩
theorem gb_trans {a w w' : World} {row : Option Nat} (h : a.grownBy w row) (k : w.grownBy w' row) : a.grownBy w' row :=
  ⟨k.os.trans h.os, k.tape.trans h.tape, k.output.trans h.output, Nat.le_trans h.size k.size, fun i hi hr => (k.block i (Nat.lt_of_lt_of_le hi h.size) hr).trans (h.block i hi hr)⟩
theorem gb_set {a w : World} {b : Nat} (h : a.grownBy w (some b)) (i : Nat) (v : Value) : a.grownBy (w.setCell ⟨b, i, none⟩ v) (some b) :=
  gb_trans h ⟨rfl, rfl, rfl, by simp [World.setCell], fun k _ hk => Below.heap_setCell _ _ _ _ (fun e => hk (by simp [e]))⟩
theorem gb_drew {a w : World} {row : Option Nat} (h : a.grownBy w row) : a.grownBy w.drew row := gb_trans h ⟨rfl, rfl, rfl, Nat.le_refl _, fun _ _ _ => rfl⟩
theorem below_gb {w0 w w' : World} {pb : Nat} (h : Below w0.heap.size w0 w) (hg : w.grownBy w' (some pb)) (hp : w0.heap.size ≤ pb) : Below w0.heap.size w0 w' := h.grown hg h.size fun k hk => by injection hk with hk; omega
theorem St.len_cost : ∀ {f : St}, f.wf true → f.len ≤ f.cost
  | .nil, _ => Nat.zero_le _
  | .step _ _ _ _ _ _ _ r, h => by have := St.len_cost (stStep_wf h).2; simp only [St.len, St.cost]; omega
  | .br .., h => absurd h.1 (by simp)
/-- Yes, and what is left in the variable. -/
def FitPost (w : World) (pb : Nat) (q' : Int) (e : Ending) (w' : World) : Prop := e = .returned (.bool true) ∧ w.grownBy w' (some pb) ∧ w'.cell? ⟨pb, 0, none⟩ = some (.int .i64 q') ∧ w'.frozen? ⟨pb, 0, none⟩ = false
theorem fitPost_mk {w w' : World} {pb : Nat} {q' q : Int} {e : Ending} (h1 : e = .returned (.bool true)) (h2 : w.grownBy w' (some pb)) (h3 : w'.cell? ⟨pb, 0, none⟩ = some (.int .i64 q)) (h4 : w'.frozen? ⟨pb, 0, none⟩ = false) (h5 : q = q') : FitPost w pb q' e w' := ⟨h1, h2, by rw [← h5]; exact h3, h4⟩
/-- A world in which the variable was set. -/
theorem set_facts {w0 w wr : World} {pb : Nat} {q : Int} (q' : Int) (hg : w.grownBy wr (some pb)) (hb : Below w0.heap.size w0 wr) (hp : w0.heap.size ≤ pb) (hc : wr.cell? ⟨pb, 0, none⟩ = some (.int .i64 q)) (hz : wr.frozen? ⟨pb, 0, none⟩ = false) :
    w.grownBy (wr.setCell ⟨pb, 0, none⟩ (.int .i64 q')) (some pb) ∧ Below w0.heap.size w0 (wr.setCell ⟨pb, 0, none⟩ (.int .i64 q')) ∧ (wr.setCell ⟨pb, 0, none⟩ (.int .i64 q')).cell? ⟨pb, 0, none⟩ = some (.int .i64 q') ∧ (wr.setCell ⟨pb, 0, none⟩ (.int .i64 q')).frozen? ⟨pb, 0, none⟩ = false :=
  ⟨gb_set hg _ _, below_gb hb (gb_set (gb_refl _ _) _ _) hp, World.cell?_setCell_same _ _ _ hc, by rw [World.frozen?_setCell]; exact hz⟩

attribute [local go_sem ↓] Go.wp_at_zero Go.wp_at_succ
set_option maxRecDepth 100000 in
set_option maxHeartbeats 8000000 in
theorem fits_any (m : Nat) : ∀ (f : St), f.cost < m → ∀ (v : Value) (levels q : Int) (pb : Nat) (w0 w : World), f.wf true → (SlAt w0 v f.len fun b o => StIn w0 f b o 0) → Below w0.heap.size w0 w → w0.heap.size ≤ pb →
    w.cell? ⟨pb, 0, none⟩ = some (.int .i64 q) → w.frozen? ⟨pb, 0, none⟩ = false → (f.tall : Int) + 1 ≤ levels → levels ≤ 131072 → (f.cost : Int) ≤ q → q ≤ 2147483647 →
    Calls Tryd.prog 61 #[v, .int .i64 levels, .pointer (some ⟨pb, 0, none⟩)] w (FitPost w pb (q - f.cost)) := by
  induction m with
  | zero => intro f h; omega
  | succ m IH =>
    intro f hm v levels q pb w0 w hwf h hb0 hpb hcell hfrz htl hlv hcq hq
    have HI := Lib.hid IH
    have HM := Lib.hid hm
    have HCQ := Lib.hid hcq
    have hlc : f.len ≤ f.cost := St.len_cost hwf
    obtain ⟨-, ao, cap, rfl, -, hs⟩ := h
    obtain ⟨n, hnn⟩ : ∃ n, n = f.len := ⟨_, rfl⟩
    have HN := Lib.hid hnn
    have HV := Lib.hid hs
    have HW := Lib.hid hwf
    rw [← hnn] at hlc
    have hx : (n : Int) ≤ q := by omega
    have hq0 : 0 ≤ q := by omega
    have HTL := Lib.hid htl
    have hl1 : 1 ≤ levels := by omega
    rw [← hnn]
    obtain ⟨g1, g2, g3, g4⟩ := set_facts (w0 := w0) (w := w) (wr := w) (q - n) (gb_refl _ _) hb0 hpb hcell hfrz
    have HG := Lib.hid g1
    have HB := Lib.hid g2
    have HC := Lib.hid g3
    have HZ := Lib.hid g4
    clear hs hnn IH hm hwf hcq htl hlc hb0 g1 g2 g3 g4
    have hl0 : (levels == 0) = false := by simp; omega
    go_enter Tryd.func61, Tryd.ntmps61
    go_wp2_with fail
    go_loopw [19] (fun vi wr => ∃ (i : Nat) (r : St) (q1 : Int), vi = .int .i64 (i : Int) ∧ i + r.len = n ∧ Hid (w.grownBy wr (some pb)) ∧ Hid (Below w0.heap.size w0 wr) ∧ Hid (wr.cell? ⟨pb, 0, none⟩ = some (.int .i64 q1)) ∧ Hid (wr.frozen? ⟨pb, 0, none⟩ = false) ∧ Hid (r.wf true ∧ r.cost ≤ f.cost ∧ (r.tall : Int) + 1 ≤ levels ∧ q1 + f.cost = q + r.cost - r.len) ∧ Hid (0 < r.len → ∃ b o, ao = some ⟨b, o, none⟩ ∧ b < w0.heap.size ∧ StIn w0 r b o i)) (fun vi _ => n + 1 - (intOf vi).toNat)
    case atStart => exact ⟨0, f, q - n, rfl, by rw [Nat.zero_add]; exact HN.out.symm, HG, HB, HC, HZ, Lib.hid ⟨HW.out, Nat.le_refl _, HTL.out, by have := HN.out; omega⟩, Lib.hid fun h => HV.out h⟩
    case round =>
      clear HG HB HC HZ hcell hfrz
      obtain ⟨i, r, q1, rfl, hir, HG, HB, HC, HZ, HP, HIN⟩ := hrel
      cases r with
      | nil =>
        simp only [St.len, Nat.add_zero] at hir
        have hii : ¬ (i : Int) < (n : Int) := by omega
        go_wp2_with fail
        go_ret
        exact fitPost_mk rfl HG.out HC.out HZ.out (by have := HP.out.2.2.2; simp only [St.cost, St.len] at this; omega)
      | br => exact absurd HP.out.1.1 (by simp)
      | step op to nm t vals alts num r =>
        simp only [St.len] at hir
        obtain ⟨hwf, hco, htl, hqq⟩ := HP.out
        obtain ⟨hwa, hwr⟩ := stStep_wf hwf
        obtain ⟨b, o, rfl, hbw, ht⟩ := HIN.out (by simp only [St.len]; omega)
        obtain ⟨-, -, -, v1, v2, -, -, -, -, e6, e7, s1, s2, er⟩ := stIn_cells ht
        obtain ⟨n1, hn1⟩ : ∃ n, n = vals.length := ⟨_, rfl⟩
        obtain ⟨n2, hn2⟩ : ∃ n, n = alts.len := ⟨_, rfl⟩
        obtain ⟨-, a1, c1, rfl, -, -⟩ := s1
        obtain ⟨-, a2, c2, rfl, -, s2⟩ := s2
        rw [← hn1] at e6
        rw [← hn2] at e7
        have hii : (i : Int) < (n : Int) := by omega
        have hi0 : (0 : Int) ≤ (i : Int) := by omega
        have hlr := St.len_cost hwr
        have f6 : wr.cell? ⟨b, o + i * 9 + 6, none⟩ = some (Value.slice a1 n1 c1) := (HB.out.cell (p := ⟨b, _, none⟩) hbw).trans e6
        have f7 : wr.cell? ⟨b, o + i * 9 + 7, none⟩ = some (Value.slice a2 n2 c2) := (HB.out.cell (p := ⟨b, _, none⟩) hbw).trans e7
        have hcx := HC.out
        have hzx := HZ.out
        simp only [St.cost, St.len, St.tall] at hqq htl hco
        have hq1 : q1 ≤ 2147483647 := by omega
        have hq2 : (n1 : Int) + n2 ≤ q1 := by have := HCQ.out; omega
        have hq3 : (n1 : Int) ≤ q1 := by omega
        have hq4 : (n2 : Int) ≤ q1 := by omega
        obtain ⟨wd, hwd⟩ : ∃ wd, wd = wr.drew := ⟨_, rfl⟩
        have f6' : wd.cell? ⟨b, o + i * 9 + 6, none⟩ = some (Value.slice a1 n1 c1) := by rw [hwd]; exact f6
        have f7' : wd.cell? ⟨b, o + i * 9 + 7, none⟩ = some (Value.slice a2 n2 c2) := by rw [hwd]; exact f7
        have hcd : wd.cell? ⟨pb, 0, none⟩ = some (.int .i64 q1) := by rw [hwd]; exact hcx
        have hzd : wd.frozen? ⟨pb, 0, none⟩ = false := by rw [hwd]; exact hzx
        obtain ⟨wx, hwx⟩ : ∃ wx, wx = wd.setCell ⟨pb, 0, none⟩ (.int .i64 (q1 - (n1 + n2))) := ⟨_, rfl⟩
        obtain ⟨g1, g2, g3, g4⟩ := set_facts (w0 := w0) (w := w) (wr := wd) (q1 - (n1 + n2)) (by rw [hwd]; exact gb_drew HG.out) (by rw [hwd]; exact Below.drew HB.out) hpb hcd hzd
        rw [← hwx] at g1 g2 g3 g4
        have k6 : wx.cell? ⟨b, o + i * 9 + 6, none⟩ = some (Value.slice a1 n1 c1) := (g2.cell (p := ⟨b, _, none⟩) hbw).trans e6
        have k7 : wx.cell? ⟨b, o + i * 9 + 7, none⟩ = some (Value.slice a2 n2 c2) := (g2.cell (p := ⟨b, _, none⟩) hbw).trans e7
        have HG2 := Lib.hid g1
        have HB2 := Lib.hid g2
        have HC2 := Lib.hid g3
        have HZ2 := Lib.hid g4
        have hq5 : ¬ q1 - ((n1 : Int) + n2) < 0 := by omega
        have HNX := Lib.hid (And.intro hn1 hn2)
        have HSV := Lib.hid s2
        have HRR := Lib.hid er
        have HE7 := Lib.hid e7
        have HQ2 : Hid (r.wf true ∧ r.cost ≤ f.cost ∧ (r.tall : Int) + 1 ≤ levels ∧ q1 - (n1 + n2) + f.cost = q + alts.cost + r.cost - r.len ∧ (r.len ≤ r.cost) ∧ alts.wf false ∧ (alts.tall : Int) + 1 ≤ levels ∧ alts.cost < m) := Lib.hid ⟨hwr, by omega, by omega, by omega, hlr, hwa, by omega, by have := HM.out; omega⟩
        clear ht e6 e7 s2 er hwf hco htl hqq hwa hwr hlr hn1 hn2 g1 g2 HG HB HC HZ HP HIN
        go_wp2_with fail
        go_still_tail 16, (by kernel_rfl)
        change wpList _ _ _ _ _ wr.drew
        rw [← hwd]
        clear hcx hzx f6 f7 hwd
        go_wp2_with fail
        rw [← hwx]
        clear f6' f7' hcd hzd k6 hwx
        go_loopw [54] (fun vk wr => ∃ (k : Nat) (r2 : St) (q3 : Int), vk = .int .i64 (k : Int) ∧ k + r2.len = n2 ∧ q3 ≤ 2147483647 ∧ Hid (w.grownBy wr (some pb)) ∧ Hid (Below w0.heap.size w0 wr) ∧ Hid (wr.cell? ⟨pb, 0, none⟩ = some (.int .i64 q3)) ∧ Hid (wr.frozen? ⟨pb, 0, none⟩ = false) ∧ Hid (r2.wf false ∧ r2.cost ≤ alts.cost ∧ (r2.tall : Int) + 1 ≤ levels ∧ q3 + alts.cost = q1 - (n1 + n2) + r2.cost) ∧ Hid (0 < r2.len → ∃ b o, a2 = some ⟨b, o, none⟩ ∧ b < w0.heap.size ∧ StIn w0 r2 b o k)) (fun vk _ => n2 + 1 - (intOf vk).toNat)
        case atStart => exact ⟨0, alts, q1 - (n1 + n2), rfl, by rw [Nat.zero_add]; exact HNX.out.2.symm, by omega, HG2, HB2, HC2, HZ2, Lib.hid ⟨HQ2.out.2.2.2.2.2.1, Nat.le_refl _, HQ2.out.2.2.2.2.2.2.1, rfl⟩, Lib.hid fun h => HSV.out h⟩
        case round =>
          rename World => wy
          clear HG2 HB2 HC2 HZ2 g3 g4 k7
          obtain ⟨k, r2, q3, rfl, hkr, hq6, HG3, HB3, HC3, HZ3, HP3, HIN3⟩ := hrel
          cases r2 with
          | nil =>
            simp only [St.len, Nat.add_zero] at hkr
            have hkk : ¬ (k : Int) < (n2 : Int) := by omega
            go_wp2_with fail
            go_roundw
            case rel =>
              refine ⟨i + 1, r, q3, by go_num, by omega, HG3, HB3, HC3, HZ3, Lib.hid ⟨HQ2.out.1, HQ2.out.2.1, HQ2.out.2.2.1, ?_⟩, Lib.hid fun _ => ⟨b, o, rfl, hbw, HRR.out⟩⟩
              have h1 := HP3.out.2.2.2
              have h2 := HQ2.out.2.2.2.1
              simp only [St.cost] at h1
              omega
            case measure => simp [intOf]; omega
          | step => exact absurd HP3.out.1.1 (by simp)
          | br take tg num2 sk r2 =>
            simp only [St.len] at hkr
            obtain ⟨hwf, hco, htl, hqq⟩ := HP3.out
            obtain ⟨hws, hwr⟩ := stBr_wf hwf
            obtain ⟨b2, o2, rfl, hbw2, ht⟩ := HIN3.out (by simp only [St.len]; omega)
            obtain ⟨-, v3, -, x5, s3, er⟩ := brIn_cells ht
            obtain ⟨n3, hn3⟩ : ∃ n, n = sk.len := ⟨_, rfl⟩
            have HS3 := Lib.hid s3
            obtain ⟨-, a3, c3, rfl, -, -⟩ := s3
            rw [← hn3] at x5
            have hkk : (k : Int) < (n2 : Int) := by omega
            have hk0 : (0 : Int) ≤ (k : Int) := by omega
            have y7 : wy.cell? ⟨b, o + i * 9 + 7, none⟩ = some (Value.slice (some ⟨b2, o2, none⟩) n2 c2) := (HB3.out.cell (p := ⟨b, _, none⟩) hbw).trans HE7.out
            have y5 : wy.cell? ⟨b2, o2 + k * 6 + 5, none⟩ = some (Value.slice a3 n3 c3) := (HB3.out.cell (p := ⟨b2, _, none⟩) hbw2).trans x5
            simp only [St.cost, St.tall] at hqq htl hco
            have hcs := HQ2.out.2.2.2.2.2.2.2
            have HCL := HI.out sk (by omega) _ (levels - 1) q3 pb w0 wy hws HS3.out HB3.out hpb HC3.out HZ3.out (by omega) (by omega) (by have := HQ2.out.2.2.2; have := HCQ.out; omega) (by omega)
            rw [← hn3] at HCL
            have HCL := Lib.hid HCL
            have HRR3 := Lib.hid er
            have HQ3 : Hid (r2.wf false ∧ r2.cost ≤ alts.cost ∧ (r2.tall : Int) + 1 ≤ levels ∧ q3 - sk.cost + alts.cost = q1 - (n1 + n2) + r2.cost) := Lib.hid ⟨hwr, by omega, by omega, by omega⟩
            have HBY := HB3
            clear ht x5 er hwf hco htl hqq hws hwr hn3 hcs HB3 HC3 HZ3 HP3 HIN3
            go_wp2_with fail
            refine HCL.out.mono ?_
            rintro e w4 ⟨rfl, hg4, hc4, hz4⟩
            have HG4 := Lib.hid hg4
            have HC4 := Lib.hid hc4
            have HZ4 := Lib.hid hz4
            clear hg4 hc4 hz4 HCL
            go_wp2_with fail
            go_roundw
            case rel =>
              exact ⟨k + 1, r2, q3 - sk.cost, by go_num, by omega, by omega, Lib.hid (gb_trans HG3.out HG4.out), Lib.hid (below_gb HBY.out HG4.out hpb), HC4, HZ4, HQ3, Lib.hid fun _ => ⟨b2, o2, rfl, hbw2, HRR3.out⟩⟩
            case measure => simp [intOf]; omega

def stCost : List Fn → Nat
  | [] => 0
  | x :: r => x.steps.cost + stCost r
theorem stCost_drop {l : List Fn} {i : Nat} (h : i < l.length) : stCost (l.drop i) = l[i].steps.cost + stCost (l.drop (i + 1)) := by
  rw [List.drop_eq_getElem_cons h]; rfl
set_option maxRecDepth 100000 in
set_option maxHeartbeats 8000000 in
theorem isWithin_any (fs : List Fn) (v : Value) (most : Int) (w : World) (hv : SlAt w v fs.length fun b o => FnIn w fs b o) (hm : (stCost fs : Int) ≤ most) (hm2 : most ≤ 2147483647) (ht : ∀ j (h : j < fs.length), fs[j].steps.tall + 1 ≤ 131072) :
    Calls Tryd.prog 34 #[.int .i64 most, v] w (Grew (.bool true) w) := by
  obtain ⟨hlen, ao, cap, rfl, -, hs⟩ := hv
  obtain ⟨n, hn⟩ : ∃ n, n = fs.length := ⟨_, rfl⟩
  have HN := Lib.hid hn
  have HV := Lib.hid hs
  have HT := Lib.hid ht
  have HM := Lib.hid hm
  rw [← hn] at hlen HV ⊢
  have hx : (n : Int) ≤ 140737488355328 := by have : n ≤ 140737488355328 := hlen; omega
  obtain ⟨pb, hpb⟩ : ∃ pb, pb = w.heap.size := ⟨_, rfl⟩
  have hbs : Below w.heap.size w (w.alloc (.cells #[.int .i64 most] 3)) := (Below.refl _ w).alloc (Nat.le_refl _) _
  have hc0 : (w.alloc (.cells #[.int .i64 most] 3)).cell? ⟨w.heap.size, 0, none⟩ = some (.int .i64 most) := by rw [cell_of_row _ w.heap.size 0 _ _ _ (heap_alloc_new w _)]; rfl
  have hz0 : (w.alloc (.cells #[.int .i64 most] 3)).frozen? ⟨w.heap.size, 0, none⟩ = false := World.frozen?_alloc_new _ _ _ _
  have HB := Lib.hid hbs
  have HC := Lib.hid hc0
  have HZ := Lib.hid hz0
  clear hs hlen hn hm ht hbs hc0 hz0 hpb
  go_enter Tryd.func34, Tryd.ntmps34
  go_wp2_with fail
  go_loopw [8] (fun vi wr => ∃ (i : Nat) (q : Int), vi = .int .i64 (i : Int) ∧ i ≤ n ∧ q ≤ 2147483647 ∧ Hid (Below w.heap.size w wr) ∧ Hid (wr.cell? ⟨w.heap.size, 0, none⟩ = some (.int .i64 q)) ∧ Hid (wr.frozen? ⟨w.heap.size, 0, none⟩ = false) ∧ Hid ((stCost (fs.drop i) : Int) ≤ q)) (fun vi _ => n + 1 - (intOf vi).toNat)
  case atStart => exact ⟨0, most, rfl, by omega, by omega, HB, HC, HZ, HM⟩
  case round =>
    clear HB HC HZ
    obtain ⟨i, q, rfl, hin, hq, HB, HC, HZ, HQ⟩ := hrel
    by_cases hii : (i : Int) < (n : Int)
    · have hi0 : (0 : Int) ≤ (i : Int) := by omega
      have hilt : i < fs.length := by have := HN.out; omega
      obtain ⟨b, o, rfl, hbw, ht⟩ := HV.out (by have := HN.out; omega)
      obtain ⟨-, -, -, ⟨v2, x2, hwf, s2⟩⟩ := ht i hilt
      have hqq := HQ.out
      rw [stCost_drop hilt] at hqq
      obtain ⟨sk, hsk⟩ : ∃ sk, sk = fs[i].steps := ⟨_, rfl⟩
      have htk := HT.out i hilt
      rw [← hsk] at hwf s2 hqq htk
      obtain ⟨n3, hn3⟩ : ∃ n, n = sk.len := ⟨_, rfl⟩
      have HS3 := Lib.hid s2
      obtain ⟨-, a3, c3, rfl, -, -⟩ := s2
      rw [← hn3] at x2
      have y5 : wr.cell? ⟨b, o + i * 3 + 2, none⟩ = some (Value.slice a3 n3 c3) := (HB.out.cell (p := ⟨b, _, none⟩) hbw).trans x2
      have HCL := fits_any (sk.cost + 1) sk (by omega) _ 131072 q w.heap.size w wr hwf HS3.out HB.out (Nat.le_refl _) HC.out HZ.out (by omega) (by omega) (by omega) hq
      rw [← hn3] at HCL
      have HCL := Lib.hid HCL
      have HQ2 : Hid ((stCost (fs.drop (i + 1)) : Int) ≤ q - sk.cost) := Lib.hid (by omega)
      have hq2 : q - (sk.cost : Int) ≤ 2147483647 := by omega
      have HBY := HB
      clear ht x2 hqq hwf htk hsk hn3 HB HC HZ HQ hilt HS3
      go_wp2_with fail
      refine HCL.out.mono ?_
      rintro e w4 ⟨rfl, hg4, hc4, hz4⟩
      have HG4 := Lib.hid hg4
      have HC4 := Lib.hid hc4
      have HZ4 := Lib.hid hz4
      clear hg4 hc4 hz4 HCL
      go_wp2_with fail
      go_roundw
      case rel => exact ⟨i + 1, q - sk.cost, by go_num, by omega, hq2, Lib.hid (below_gb HBY.out HG4.out (Nat.le_refl _)), HC4, HZ4, HQ2⟩
      case measure => simp [intOf]; omega
    · go_wp2_with fail
      go_ret
      exact ⟨rfl, HB.out⟩
set_option maxRecDepth 100000 in
set_option maxHeartbeats 8000000 in
theorem isBounded_any (fs : List Fn) (v : Value) (w : World) (hv : SlAt w v fs.length fun b o => FnIn w fs b o) (hm : stCost fs ≤ 1000000) (ht : ∀ j (h : j < fs.length), fs[j].steps.tall + 1 ≤ 131072) :
    Calls Tryd.prog 39 #[v] w (Grew (.bool true) w) := by
  have HC := Lib.hid (isWithin_any fs v 67108863 w hv (by omega) (by omega) ht)
  clear hv ht
  go_enter Tryd.func39, Tryd.ntmps39
  go_wp2_with fail
  refine HC.out.mono ?_
  rintro e w2 ⟨rfl, hb2⟩
  have HB := Lib.hid hb2
  clear hb2 HC
  go_wp2_with fail
  go_ret
  exact ⟨rfl, HB.out⟩
end Go.Proofs.YtoidogfnjpmceaaDoor
