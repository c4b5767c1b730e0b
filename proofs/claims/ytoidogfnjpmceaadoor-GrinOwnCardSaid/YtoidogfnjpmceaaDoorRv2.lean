/- gristmillref.SameSteps of the same steps. No conditions. -/
import Derived.Test.YtoidogfnjpmceaaDoorMs0
import Derived.Test.YtoidogfnjpmceaaDoorRv1
namespace Go.Proofs.YtoidogfnjpmceaaDoor
open Go.ChangeShapes Go.WideShapes Go.ChangeAt Go.RowKit
attribute [local go_sem ↓] Go.wp_at_zero Go.wp_at_succ

set_option maxRecDepth 100000 in
set_option maxHeartbeats 8000000 in
theorem refSteps_of (m : Nat) : ∀ (f : St), f.cost < m → ∀ (v v' : Value) (w : World), f.wf true → (SlAt w v f.len fun b o => StIn w f b o 0) → (SlAt w v' f.len fun b o => StIn w f b o 0) → Calls Tryd.prog 45 #[v, v'] w (Grew (.bool true) w) := by
  induction m with
  | zero => intro f h; omega
  | succ m IH =>
    intro f hm v v' w hwf h h'
    have HI := Lib.hid IH
    have HM := Lib.hid hm
    obtain ⟨hn, ao, cap, rfl, -, hs⟩ := h
    obtain ⟨hn', ao', cap', rfl, -, hs'⟩ := h'
    obtain ⟨n, hnn⟩ : ∃ n, n = f.len := ⟨_, rfl⟩
    have HN := Lib.hid hnn
    have HV := Lib.hid hs
    have HV' := Lib.hid hs'
    have HW := Lib.hid hwf
    rw [← hnn] at hn HV HV' ⊢
    have hx : (n : Int) ≤ 140737488355328 := by have : n ≤ 140737488355328 := hn; omega
    have HB := Lib.hid (Below.refl w.heap.size w)
    clear hs hs' hn hn' hnn IH hm hwf
    have hnn : ((n : Int) != (n : Int)) = false := by simp
    go_enter Tryd.func45, Tryd.ntmps45
    go_wp2_with fail
    go_loopw [5] (fun vi wr => ∃ (i : Nat) (r : St), vi = .int .i64 (i : Int) ∧ i + r.len = n ∧ Hid (Below w.heap.size w wr) ∧ Hid (r.wf true ∧ r.cost ≤ f.cost ∧ (0 < r.len → ∃ b o, ao = some ⟨b, o, none⟩ ∧ b < w.heap.size ∧ StIn w r b o i) ∧ (0 < r.len → ∃ b o, ao' = some ⟨b, o, none⟩ ∧ b < w.heap.size ∧ StIn w r b o i))) (fun vi _ => n + 1 - (intOf vi).toNat)
    case atStart => exact ⟨0, f, rfl, by rw [Nat.zero_add]; exact HN.out.symm, HB, Lib.hid ⟨HW.out, Nat.le_refl _, fun h => HV.out (by have := HN.out; omega), fun h => HV'.out (by have := HN.out; omega)⟩⟩
    case round =>
      clear HB
      obtain ⟨i, r, rfl, hir, HB, HS⟩ := hrel
      cases r with
      | nil =>
        simp only [St.len, Nat.add_zero] at hir
        have hii : ¬ (i : Int) < (n : Int) := by omega
        go_wp2_with fail
        go_ret
        exact ⟨rfl, HB.out⟩
      | br => exact absurd HS.out.1.1 (by simp)
      | step op to nm t vals alts num r =>
        simp only [St.len] at hir
        obtain ⟨hwf, hco, hin, hinp⟩ := HS.out
        obtain ⟨hwa, hwr⟩ := stStep_wf hwf
        obtain ⟨b, o, rfl, hbw, ht⟩ := hin (by simp only [St.len]; omega)
        obtain ⟨bp, oq, rfl, hbwp, htp⟩ := hinp (by simp only [St.len]; omega)
        obtain ⟨tk, ts, tn⟩ := t
        obtain ⟨n1, hn1⟩ : ∃ n, n = vals.length := ⟨_, rfl⟩
        obtain ⟨n2, hn2⟩ : ∃ n, n = alts.len := ⟨_, rfl⟩
        have hii : (i : Int) < (n : Int) := by omega
        have hi0 : (0 : Int) ≤ (i : Int) := by omega
        obtain ⟨⟨e0, e1, e2, ⟨e3, e4, e5, -⟩, -, -, -, -, ⟨u1, e6, s1⟩, ⟨u2, e7, s2⟩, e8⟩, er⟩ := ht
        have HSV := Lib.hid s1
        obtain ⟨hx1, a1, c1, rfl, hc1, s1⟩ := s1
        obtain ⟨hx2, a2, c2, rfl, hc2, s2⟩ := s2
        rw [← hn1] at e6 hx1
        rw [← hn2] at e7 hx2
        have f0 : wr.cell? ⟨b, o + i * 9, none⟩ = some (Value.int .i64 op) := (HB.out.cell (p := ⟨b, _, none⟩) hbw).trans e0
        have f1 : wr.cell? ⟨b, o + i * 9 + 1, none⟩ = some (Value.string to) := (HB.out.cell (p := ⟨b, _, none⟩) hbw).trans e1
        have f2 : wr.cell? ⟨b, o + i * 9 + 2, none⟩ = some (Value.string nm) := (HB.out.cell (p := ⟨b, _, none⟩) hbw).trans e2
        have f3 : wr.cell? ⟨b, o + i * 9 + 3, none⟩ = some (Value.int .i64 tk) := (HB.out.cell (p := ⟨b, _, none⟩) hbw).trans e3
        have f4 : wr.cell? ⟨b, o + i * 9 + 4, none⟩ = some (Value.string ts) := (HB.out.cell (p := ⟨b, _, none⟩) hbw).trans e4
        have f5 : wr.cell? ⟨b, o + i * 9 + 5, none⟩ = some (Value.int .i64 tn) := (HB.out.cell (p := ⟨b, _, none⟩) hbw).trans e5
        have f6 : wr.cell? ⟨b, o + i * 9 + 6, none⟩ = some (Value.slice a1 n1 c1) := (HB.out.cell (p := ⟨b, _, none⟩) hbw).trans e6
        have f7 : wr.cell? ⟨b, o + i * 9 + 7, none⟩ = some (Value.slice a2 n2 c2) := (HB.out.cell (p := ⟨b, _, none⟩) hbw).trans e7
        have f8 : wr.cell? ⟨b, o + i * 9 + 8, none⟩ = some (Value.int .i64 num) := (HB.out.cell (p := ⟨b, _, none⟩) hbw).trans e8
        have HV1 := Lib.hid s1
        have HV2 := Lib.hid s2
        have HR := Lib.hid er
        clear e0 e1 e2 e3 e4 e5 e6 e7 e8 s1 s2 er
        obtain ⟨⟨e0, e1, e2, ⟨e3, e4, e5, -⟩, -, -, -, -, ⟨u1, e6, s1⟩, ⟨u2, e7, s2⟩, e8⟩, er⟩ := htp
        have HSVp := Lib.hid s1
        obtain ⟨hx1, a1p, c1p, rfl, hc1p, s1⟩ := s1
        obtain ⟨hx2, a2p, c2p, rfl, hc2p, s2⟩ := s2
        rw [← hn1] at e6 hx1
        rw [← hn2] at e7 hx2
        have f0p : wr.cell? ⟨bp, oq + i * 9, none⟩ = some (Value.int .i64 op) := (HB.out.cell (p := ⟨bp, _, none⟩) hbwp).trans e0
        have f1p : wr.cell? ⟨bp, oq + i * 9 + 1, none⟩ = some (Value.string to) := (HB.out.cell (p := ⟨bp, _, none⟩) hbwp).trans e1
        have f2p : wr.cell? ⟨bp, oq + i * 9 + 2, none⟩ = some (Value.string nm) := (HB.out.cell (p := ⟨bp, _, none⟩) hbwp).trans e2
        have f3p : wr.cell? ⟨bp, oq + i * 9 + 3, none⟩ = some (Value.int .i64 tk) := (HB.out.cell (p := ⟨bp, _, none⟩) hbwp).trans e3
        have f4p : wr.cell? ⟨bp, oq + i * 9 + 4, none⟩ = some (Value.string ts) := (HB.out.cell (p := ⟨bp, _, none⟩) hbwp).trans e4
        have f5p : wr.cell? ⟨bp, oq + i * 9 + 5, none⟩ = some (Value.int .i64 tn) := (HB.out.cell (p := ⟨bp, _, none⟩) hbwp).trans e5
        have f6p : wr.cell? ⟨bp, oq + i * 9 + 6, none⟩ = some (Value.slice a1p n1 c1p) := (HB.out.cell (p := ⟨bp, _, none⟩) hbwp).trans e6
        have f7p : wr.cell? ⟨bp, oq + i * 9 + 7, none⟩ = some (Value.slice a2p n2 c2p) := (HB.out.cell (p := ⟨bp, _, none⟩) hbwp).trans e7
        have f8p : wr.cell? ⟨bp, oq + i * 9 + 8, none⟩ = some (Value.int .i64 num) := (HB.out.cell (p := ⟨bp, _, none⟩) hbwp).trans e8
        have HV1p := Lib.hid s1
        have HV2p := Lib.hid s2
        have HRp := Lib.hid er
        clear e0 e1 e2 e3 e4 e5 e6 e7 e8 s1 s2 er
        have hx2' : (n2 : Int) ≤ 140737488355328 := by have : n2 ≤ 140737488355328 := hx2; omega
        have HN1 := Lib.hid hn1
        have HN2 := Lib.hid hn2
        have HWA := Lib.hid hwa
        have HCO := Lib.hid hco
        have HREST : Hid (r.wf true ∧ r.cost ≤ f.cost ∧ (0 < r.len → ∃ b' o', some ⟨b, o, none⟩ = some (⟨b', o', none⟩ : Addr) ∧ b' < w.heap.size ∧ StIn w r b' o' (i + 1)) ∧ (0 < r.len → ∃ b' o', some ⟨bp, oq, none⟩ = some (⟨b', o', none⟩ : Addr) ∧ b' < w.heap.size ∧ StIn w r b' o' (i + 1))) := Lib.hid ⟨hwr, by simp only [St.cost] at hco; omega, fun _ => ⟨b, o, rfl, hbw, HR.out⟩, fun _ => ⟨bp, oq, rfl, hbwp, HRp.out⟩⟩
        clear HS hwf hco hin hinp hwa hwr hn1 hn2 hx1 hx2 HR HRp
        have q1 : (op == op) = true := by simp
        have q2 : (to == to) = true := by rw [beq_toListBytes]; simp
        have q3 : (nm == nm) = true := by rw [beq_toListBytes]; simp
        have q4 : (num == num) = true := by simp
        have r1 : (op != op) = false := by simp
        have r2 : (to != to) = false := by simp only [bne, q2, Bool.not_true]
        have r3 : (nm != nm) = false := by simp only [bne, q3, Bool.not_true]
        have r4 : (num != num) = false := by simp
        have r5 : ((n2 : Int) != (n2 : Int)) = false := by simp
        have HX : Hid (Below w.heap.size w ((wr.alloc (.cells #[.int .i64 op, .string to, .string nm, .int .i64 tk, .string ts, .int .i64 tn, .slice a1 n1 c1, .slice a2 n2 c2, .int .i64 num] 29)).alloc (.cells #[.int .i64 op, .string to, .string nm, .int .i64 tk, .string ts, .int .i64 tn, .slice a1p n1 c1p, .slice a2p n2 c2p, .int .i64 num] 29))) := Lib.hid ((HB.out.alloc HB.out.size _).alloc (by have := HB.out.size; simp; omega) _)
        have hA : wr.heap.size < ((wr.alloc (.cells #[.int .i64 op, .string to, .string nm, .int .i64 tk, .string ts, .int .i64 tn, .slice a1 n1 c1, .slice a2 n2 c2, .int .i64 num] 29)).alloc (.cells #[.int .i64 op, .string to, .string nm, .int .i64 tk, .string ts, .int .i64 tn, .slice a1p n1 c1p, .slice a2p n2 c2p, .int .i64 num] 29)).heap.size := by simp; try omega
        have hAp : wr.heap.size + 1 < ((wr.alloc (.cells #[.int .i64 op, .string to, .string nm, .int .i64 tk, .string ts, .int .i64 tn, .slice a1 n1 c1, .slice a2 n2 c2, .int .i64 num] 29)).alloc (.cells #[.int .i64 op, .string to, .string nm, .int .i64 tk, .string ts, .int .i64 tn, .slice a1p n1 c1p, .slice a2p n2 c2p, .int .i64 num] 29)).heap.size := by simp; try omega
        have SZ' : bp < wr.heap.size := Nat.lt_of_lt_of_le hbwp HB.out.size
        have d0 : (wr.alloc (.cells #[.int .i64 op, .string to, .string nm, .int .i64 tk, .string ts, .int .i64 tn, .slice a1 n1 c1, .slice a2 n2 c2, .int .i64 num] 29)).cell? ⟨bp, oq + i * 9, none⟩ = some (Value.int .i64 op) := (World.cell?_of_block (Below.heap_alloc wr _ _ SZ')).trans f0p
        have d1 : (wr.alloc (.cells #[.int .i64 op, .string to, .string nm, .int .i64 tk, .string ts, .int .i64 tn, .slice a1 n1 c1, .slice a2 n2 c2, .int .i64 num] 29)).cell? ⟨bp, oq + i * 9 + 1, none⟩ = some (Value.string to) := (World.cell?_of_block (Below.heap_alloc wr _ _ SZ')).trans f1p
        have d2 : (wr.alloc (.cells #[.int .i64 op, .string to, .string nm, .int .i64 tk, .string ts, .int .i64 tn, .slice a1 n1 c1, .slice a2 n2 c2, .int .i64 num] 29)).cell? ⟨bp, oq + i * 9 + 2, none⟩ = some (Value.string nm) := (World.cell?_of_block (Below.heap_alloc wr _ _ SZ')).trans f2p
        have d3 : (wr.alloc (.cells #[.int .i64 op, .string to, .string nm, .int .i64 tk, .string ts, .int .i64 tn, .slice a1 n1 c1, .slice a2 n2 c2, .int .i64 num] 29)).cell? ⟨bp, oq + i * 9 + 3, none⟩ = some (Value.int .i64 tk) := (World.cell?_of_block (Below.heap_alloc wr _ _ SZ')).trans f3p
        have d4 : (wr.alloc (.cells #[.int .i64 op, .string to, .string nm, .int .i64 tk, .string ts, .int .i64 tn, .slice a1 n1 c1, .slice a2 n2 c2, .int .i64 num] 29)).cell? ⟨bp, oq + i * 9 + 4, none⟩ = some (Value.string ts) := (World.cell?_of_block (Below.heap_alloc wr _ _ SZ')).trans f4p
        have d5 : (wr.alloc (.cells #[.int .i64 op, .string to, .string nm, .int .i64 tk, .string ts, .int .i64 tn, .slice a1 n1 c1, .slice a2 n2 c2, .int .i64 num] 29)).cell? ⟨bp, oq + i * 9 + 5, none⟩ = some (Value.int .i64 tn) := (World.cell?_of_block (Below.heap_alloc wr _ _ SZ')).trans f5p
        have d6 : (wr.alloc (.cells #[.int .i64 op, .string to, .string nm, .int .i64 tk, .string ts, .int .i64 tn, .slice a1 n1 c1, .slice a2 n2 c2, .int .i64 num] 29)).cell? ⟨bp, oq + i * 9 + 6, none⟩ = some (Value.slice a1p n1 c1p) := (World.cell?_of_block (Below.heap_alloc wr _ _ SZ')).trans f6p
        have d7 : (wr.alloc (.cells #[.int .i64 op, .string to, .string nm, .int .i64 tk, .string ts, .int .i64 tn, .slice a1 n1 c1, .slice a2 n2 c2, .int .i64 num] 29)).cell? ⟨bp, oq + i * 9 + 7, none⟩ = some (Value.slice a2p n2 c2p) := (World.cell?_of_block (Below.heap_alloc wr _ _ SZ')).trans f7p
        have d8 : (wr.alloc (.cells #[.int .i64 op, .string to, .string nm, .int .i64 tk, .string ts, .int .i64 tn, .slice a1 n1 c1, .slice a2 n2 c2, .int .i64 num] 29)).cell? ⟨bp, oq + i * 9 + 8, none⟩ = some (Value.int .i64 num) := (World.cell?_of_block (Below.heap_alloc wr _ _ SZ')).trans f8p
        have HT : Hid (∀ w', Calls Tryd.prog 69 #[.agg #[.int .i64 tk, .string ts, .int .i64 tn], .agg #[.int .i64 tk, .string ts, .int .i64 tn]] w' (Grew (.bool true) w')) := Lib.hid fun w' => refTag_of tk ts tn w'
        have HVs : Hid (∀ w', Below w.heap.size w w' → Calls Tryd.prog 70 #[.slice a1 n1 c1, .slice a1p n1 c1p] w' (Grew (.bool true) w')) := Lib.hid fun w' hb => by
          have := refVals_of vals _ _ w' (HSV.out.mono hb.size fun _ _ p q => VlIn.below hb p q) (HSVp.out.mono hb.size fun _ _ p q => VlIn.below hb p q)
          rw [← HN1.out] at this
          exact this
        have HG6 := Lib.hid (two_rows_a wr (.cells #[.int .i64 op, .string to, .string nm, .int .i64 tk, .string ts, .int .i64 tn, .slice a1 n1 c1, .slice a2 n2 c2, .int .i64 num] 29) (.cells #[.int .i64 op, .string to, .string nm, .int .i64 tk, .string ts, .int .i64 tn, .slice a1p n1 c1p, .slice a2p n2 c2p, .int .i64 num] 29) #[.int .i64 op, .string to, .string nm, .int .i64 tk, .string ts, .int .i64 tn, .slice a1 n1 c1, .slice a2 n2 c2, .int .i64 num] 29 6 _ rfl rfl)
        have HG6p := Lib.hid (two_rows_b wr (.cells #[.int .i64 op, .string to, .string nm, .int .i64 tk, .string ts, .int .i64 tn, .slice a1 n1 c1, .slice a2 n2 c2, .int .i64 num] 29) (.cells #[.int .i64 op, .string to, .string nm, .int .i64 tk, .string ts, .int .i64 tn, .slice a1p n1 c1p, .slice a2p n2 c2p, .int .i64 num] 29) #[.int .i64 op, .string to, .string nm, .int .i64 tk, .string ts, .int .i64 tn, .slice a1p n1 c1p, .slice a2p n2 c2p, .int .i64 num] 29 6 _ rfl rfl)
        have HG7 := Lib.hid (two_rows_a wr (.cells #[.int .i64 op, .string to, .string nm, .int .i64 tk, .string ts, .int .i64 tn, .slice a1 n1 c1, .slice a2 n2 c2, .int .i64 num] 29) (.cells #[.int .i64 op, .string to, .string nm, .int .i64 tk, .string ts, .int .i64 tn, .slice a1p n1 c1p, .slice a2p n2 c2p, .int .i64 num] 29) #[.int .i64 op, .string to, .string nm, .int .i64 tk, .string ts, .int .i64 tn, .slice a1 n1 c1, .slice a2 n2 c2, .int .i64 num] 29 7 _ rfl rfl)
        have HG7p := Lib.hid (two_rows_b wr (.cells #[.int .i64 op, .string to, .string nm, .int .i64 tk, .string ts, .int .i64 tn, .slice a1 n1 c1, .slice a2 n2 c2, .int .i64 num] 29) (.cells #[.int .i64 op, .string to, .string nm, .int .i64 tk, .string ts, .int .i64 tn, .slice a1p n1 c1p, .slice a2p n2 c2p, .int .i64 num] 29) #[.int .i64 op, .string to, .string nm, .int .i64 tk, .string ts, .int .i64 tn, .slice a1p n1 c1p, .slice a2p n2 c2p, .int .i64 num] 29 7 _ rfl rfl)
        have HhA := Lib.hid hA
        have HhAp := Lib.hid hAp
        go_wp2_with fail
        refine (HT.out _).mono ?_
        rintro e w3 ⟨rfl, hb3⟩
        have HB3 : Hid (Below ((wr.alloc (.cells #[.int .i64 op, .string to, .string nm, .int .i64 tk, .string ts, .int .i64 tn, .slice a1 n1 c1, .slice a2 n2 c2, .int .i64 num] 29)).alloc (.cells #[.int .i64 op, .string to, .string nm, .int .i64 tk, .string ts, .int .i64 tn, .slice a1p n1 c1p, .slice a2p n2 c2p, .int .i64 num] 29)).heap.size ((wr.alloc (.cells #[.int .i64 op, .string to, .string nm, .int .i64 tk, .string ts, .int .i64 tn, .slice a1 n1 c1, .slice a2 n2 c2, .int .i64 num] 29)).alloc (.cells #[.int .i64 op, .string to, .string nm, .int .i64 tk, .string ts, .int .i64 tn, .slice a1p n1 c1p, .slice a2p n2 c2p, .int .i64 num] 29)) w3) := Lib.hid hb3
        have HX3 : Hid (Below w.heap.size w w3) := Lib.hid (HX.out.trans (hb3.mono HX.out.size))
        have m6 := (hb3.cell (p := ⟨wr.heap.size, 6, none⟩) HhA.out).trans HG6.out
        have m6p := (hb3.cell (p := ⟨wr.heap.size + 1, 6, none⟩) HhAp.out).trans HG6p.out
        clear hb3
        go_wp2_with fail
        refine (HVs.out _ HX3.out).mono ?_
        rintro e w4 ⟨rfl, hb4⟩
        have HB4 : Hid (Below ((wr.alloc (.cells #[.int .i64 op, .string to, .string nm, .int .i64 tk, .string ts, .int .i64 tn, .slice a1 n1 c1, .slice a2 n2 c2, .int .i64 num] 29)).alloc (.cells #[.int .i64 op, .string to, .string nm, .int .i64 tk, .string ts, .int .i64 tn, .slice a1p n1 c1p, .slice a2p n2 c2p, .int .i64 num] 29)).heap.size ((wr.alloc (.cells #[.int .i64 op, .string to, .string nm, .int .i64 tk, .string ts, .int .i64 tn, .slice a1 n1 c1, .slice a2 n2 c2, .int .i64 num] 29)).alloc (.cells #[.int .i64 op, .string to, .string nm, .int .i64 tk, .string ts, .int .i64 tn, .slice a1p n1 c1p, .slice a2p n2 c2p, .int .i64 num] 29)) w4) := Lib.hid (HB3.out.trans (hb4.mono HB3.out.size))
        have m7 := (HB4.out.cell (p := ⟨wr.heap.size, 7, none⟩) HhA.out).trans HG7.out
        have m7p := (HB4.out.cell (p := ⟨wr.heap.size + 1, 7, none⟩) HhAp.out).trans HG7p.out
        clear hb4 HB3 HX3 m6 m6p
        go_wp2_with fail
        go_loopw [8] (fun vk wx => ∃ (k : Nat) (r2 : St), vk = .int .i64 (k : Int) ∧ k + r2.len = n2 ∧ Hid (Below ((wr.alloc (.cells #[.int .i64 op, .string to, .string nm, .int .i64 tk, .string ts, .int .i64 tn, .slice a1 n1 c1, .slice a2 n2 c2, .int .i64 num] 29)).alloc (.cells #[.int .i64 op, .string to, .string nm, .int .i64 tk, .string ts, .int .i64 tn, .slice a1p n1 c1p, .slice a2p n2 c2p, .int .i64 num] 29)).heap.size ((wr.alloc (.cells #[.int .i64 op, .string to, .string nm, .int .i64 tk, .string ts, .int .i64 tn, .slice a1 n1 c1, .slice a2 n2 c2, .int .i64 num] 29)).alloc (.cells #[.int .i64 op, .string to, .string nm, .int .i64 tk, .string ts, .int .i64 tn, .slice a1p n1 c1p, .slice a2p n2 c2p, .int .i64 num] 29)) wx) ∧ Hid (r2.wf false ∧ r2.cost ≤ alts.cost ∧ (0 < r2.len → ∃ b o, a2 = some ⟨b, o, none⟩ ∧ b < w.heap.size ∧ StIn w r2 b o k) ∧ (0 < r2.len → ∃ b o, a2p = some ⟨b, o, none⟩ ∧ b < w.heap.size ∧ StIn w r2 b o k))) (fun vk _ => n2 + 1 - (intOf vk).toNat)
        case atStart => exact ⟨0, alts, rfl, by rw [Nat.zero_add]; exact HN2.out.symm, HB4, Lib.hid ⟨HWA.out, Nat.le_refl _, HV2.out, HV2p.out⟩⟩
        case round =>
          clear HB4 m7 m7p
          rename World => wx
          obtain ⟨k, r2, rfl, hkr, HBx, HS2⟩ := hrel
          have HXx : Hid (Below w.heap.size w wx) := Lib.hid (HX.out.trans (HBx.out.mono HX.out.size))
          have m7 := (HBx.out.cell (p := ⟨wr.heap.size, 7, none⟩) HhA.out).trans HG7.out
          have m7p := (HBx.out.cell (p := ⟨wr.heap.size + 1, 7, none⟩) HhAp.out).trans HG7p.out
          cases r2 with
          | nil =>
            simp only [St.len, Nat.add_zero] at hkr
            have hkk : ¬ (k : Int) < (n2 : Int) := by omega
            go_wp2_with fail
            go_roundw
            case rel => exact ⟨i + 1, r, by go_num, by omega, HXx, HREST⟩
            case measure => simp [intOf]; omega
          | step => exact absurd HS2.out.1.1 (by simp)
          | br take t2 unum st2 r2 =>
            simp only [St.len] at hkr
            obtain ⟨hwf2, hco2, hin2, hin2p⟩ := HS2.out
            obtain ⟨hws2, hwr2⟩ := stBr_wf hwf2
            obtain ⟨b2, o2, rfl, hbw2, ht⟩ := hin2 (by simp only [St.len]; omega)
            obtain ⟨b2p, o2p, rfl, hbw2p, htp⟩ := hin2p (by simp only [St.len]; omega)
            obtain ⟨uk, us, un⟩ := t2
            obtain ⟨n3, hn3⟩ : ∃ n, n = st2.len := ⟨_, rfl⟩
            have hkk : (k : Int) < (n2 : Int) := by omega
            have hk0 : (0 : Int) ≤ (k : Int) := by omega
            obtain ⟨⟨e0, ⟨e1, e2, e3, -⟩, e4, -, -, ⟨u1, e5, s1⟩⟩, er⟩ := ht
            have HSS := Lib.hid s1
            obtain ⟨hx3, a3, c3, rfl, hc3, s1⟩ := s1
            rw [← hn3] at e5
            have i0 : wx.cell? ⟨b2, o2 + k * 6, none⟩ = some (Value.int .i64 take) := (HXx.out.cell (p := ⟨b2, _, none⟩) hbw2).trans e0
            have i1 : wx.cell? ⟨b2, o2 + k * 6 + 1, none⟩ = some (Value.int .i64 uk) := (HXx.out.cell (p := ⟨b2, _, none⟩) hbw2).trans e1
            have i2 : wx.cell? ⟨b2, o2 + k * 6 + 2, none⟩ = some (Value.string us) := (HXx.out.cell (p := ⟨b2, _, none⟩) hbw2).trans e2
            have i3 : wx.cell? ⟨b2, o2 + k * 6 + 3, none⟩ = some (Value.int .i64 un) := (HXx.out.cell (p := ⟨b2, _, none⟩) hbw2).trans e3
            have i4 : wx.cell? ⟨b2, o2 + k * 6 + 4, none⟩ = some (Value.int .i64 unum) := (HXx.out.cell (p := ⟨b2, _, none⟩) hbw2).trans e4
            have i5 : wx.cell? ⟨b2, o2 + k * 6 + 5, none⟩ = some (Value.slice a3 n3 c3) := (HXx.out.cell (p := ⟨b2, _, none⟩) hbw2).trans e5
            have HR2 := Lib.hid er
            clear e0 e1 e2 e3 e4 e5 s1 er
            obtain ⟨⟨e0, ⟨e1, e2, e3, -⟩, e4, -, -, ⟨u1, e5, s1⟩⟩, er⟩ := htp
            have HSSp := Lib.hid s1
            obtain ⟨hx3p, a3p, c3p, rfl, hc3p, s1⟩ := s1
            rw [← hn3] at e5
            have i0p : wx.cell? ⟨b2p, o2p + k * 6, none⟩ = some (Value.int .i64 take) := (HXx.out.cell (p := ⟨b2p, _, none⟩) hbw2p).trans e0
            have i1p : wx.cell? ⟨b2p, o2p + k * 6 + 1, none⟩ = some (Value.int .i64 uk) := (HXx.out.cell (p := ⟨b2p, _, none⟩) hbw2p).trans e1
            have i2p : wx.cell? ⟨b2p, o2p + k * 6 + 2, none⟩ = some (Value.string us) := (HXx.out.cell (p := ⟨b2p, _, none⟩) hbw2p).trans e2
            have i3p : wx.cell? ⟨b2p, o2p + k * 6 + 3, none⟩ = some (Value.int .i64 un) := (HXx.out.cell (p := ⟨b2p, _, none⟩) hbw2p).trans e3
            have i4p : wx.cell? ⟨b2p, o2p + k * 6 + 4, none⟩ = some (Value.int .i64 unum) := (HXx.out.cell (p := ⟨b2p, _, none⟩) hbw2p).trans e4
            have i5p : wx.cell? ⟨b2p, o2p + k * 6 + 5, none⟩ = some (Value.slice a3p n3 c3p) := (HXx.out.cell (p := ⟨b2p, _, none⟩) hbw2p).trans e5
            have HR2p := Lib.hid er
            clear e0 e1 e2 e3 e4 e5 s1 er
            have HC : Hid (∀ w', Below w.heap.size w w' → Calls Tryd.prog 45 #[.slice a3 n3 c3, .slice a3p n3 c3p] w' (Grew (.bool true) w')) := Lib.hid fun w' hb => by
              have := HI.out st2 (by have := HM.out; have := HCO.out; simp only [St.cost] at hco2 this; omega) _ _ w' hws2 (HSS.out.mono hb.size fun _ _ p q => StIn.below hb p q) (HSSp.out.mono hb.size fun _ _ p q => StIn.below hb p q)
              rw [← hn3] at this
              exact this
            have HU : Hid (∀ w', Calls Tryd.prog 69 #[.agg #[.int .i64 uk, .string us, .int .i64 un], .agg #[.int .i64 uk, .string us, .int .i64 un]] w' (Grew (.bool true) w')) := Lib.hid fun w' => refTag_of uk us un w'
            have HREST2 : Hid (r2.wf false ∧ r2.cost ≤ alts.cost ∧ (0 < r2.len → ∃ b' o', some ⟨b2, o2, none⟩ = some (⟨b', o', none⟩ : Addr) ∧ b' < w.heap.size ∧ StIn w r2 b' o' (k + 1)) ∧ (0 < r2.len → ∃ b' o', some ⟨b2p, o2p, none⟩ = some (⟨b', o', none⟩ : Addr) ∧ b' < w.heap.size ∧ StIn w r2 b' o' (k + 1))) := Lib.hid ⟨hwr2, by simp only [St.cost] at hco2; omega, fun _ => ⟨b2, o2, rfl, hbw2, HR2.out⟩, fun _ => ⟨b2p, o2p, rfl, hbw2p, HR2p.out⟩⟩
            have HY : Hid (Below wx.heap.size wx ((wx.alloc (.cells #[.int .i64 take, .int .i64 uk, .string us, .int .i64 un, .int .i64 unum, .slice a3 n3 c3] 63)).alloc (.cells #[.int .i64 take, .int .i64 uk, .string us, .int .i64 un, .int .i64 unum, .slice a3p n3 c3p] 63))) := Lib.hid (((Below.refl _ wx).alloc (Nat.le_refl _) _).alloc (by simp) _)
            have hY : wx.heap.size < ((wx.alloc (.cells #[.int .i64 take, .int .i64 uk, .string us, .int .i64 un, .int .i64 unum, .slice a3 n3 c3] 63)).alloc (.cells #[.int .i64 take, .int .i64 uk, .string us, .int .i64 un, .int .i64 unum, .slice a3p n3 c3p] 63)).heap.size := by simp; try omega
            have hYp : wx.heap.size + 1 < ((wx.alloc (.cells #[.int .i64 take, .int .i64 uk, .string us, .int .i64 un, .int .i64 unum, .slice a3 n3 c3] 63)).alloc (.cells #[.int .i64 take, .int .i64 uk, .string us, .int .i64 un, .int .i64 unum, .slice a3p n3 c3p] 63)).heap.size := by simp; try omega
            have SZB : b2p < wx.heap.size := Nat.lt_of_lt_of_le hbw2p HXx.out.size
            have SZR : wr.heap.size + 1 < wx.heap.size := Nat.lt_of_lt_of_le HhAp.out HBx.out.size
            have m7q : (wx.alloc (.cells #[.int .i64 take, .int .i64 uk, .string us, .int .i64 un, .int .i64 unum, .slice a3 n3 c3] 63)).cell? ⟨wr.heap.size + 1, 7, none⟩ = _ := (World.cell?_of_block (Below.heap_alloc wx _ _ SZR)).trans m7p
            have q5 : (take != take) = false := by simp
            have q6 : (unum != unum) = false := by simp
            clear HS2 hwf2 hco2 hin2 hin2p hws2 hwr2 hn3 HR2 HR2p hx3 hx3p
            have h0 := two_rows_a wx (.cells #[.int .i64 take, .int .i64 uk, .string us, .int .i64 un, .int .i64 unum, .slice a3 n3 c3] 63) (.cells #[.int .i64 take, .int .i64 uk, .string us, .int .i64 un, .int .i64 unum, .slice a3p n3 c3p] 63) #[.int .i64 take, .int .i64 uk, .string us, .int .i64 un, .int .i64 unum, .slice a3 n3 c3] 63 0 _ rfl rfl
            have h0p := two_rows_b wx (.cells #[.int .i64 take, .int .i64 uk, .string us, .int .i64 un, .int .i64 unum, .slice a3 n3 c3] 63) (.cells #[.int .i64 take, .int .i64 uk, .string us, .int .i64 un, .int .i64 unum, .slice a3p n3 c3p] 63) #[.int .i64 take, .int .i64 uk, .string us, .int .i64 un, .int .i64 unum, .slice a3p n3 c3p] 63 0 _ rfl rfl
            have h1 := two_rows_a wx (.cells #[.int .i64 take, .int .i64 uk, .string us, .int .i64 un, .int .i64 unum, .slice a3 n3 c3] 63) (.cells #[.int .i64 take, .int .i64 uk, .string us, .int .i64 un, .int .i64 unum, .slice a3p n3 c3p] 63) #[.int .i64 take, .int .i64 uk, .string us, .int .i64 un, .int .i64 unum, .slice a3 n3 c3] 63 1 _ rfl rfl
            have h1p := two_rows_b wx (.cells #[.int .i64 take, .int .i64 uk, .string us, .int .i64 un, .int .i64 unum, .slice a3 n3 c3] 63) (.cells #[.int .i64 take, .int .i64 uk, .string us, .int .i64 un, .int .i64 unum, .slice a3p n3 c3p] 63) #[.int .i64 take, .int .i64 uk, .string us, .int .i64 un, .int .i64 unum, .slice a3p n3 c3p] 63 1 _ rfl rfl
            have h2 := two_rows_a wx (.cells #[.int .i64 take, .int .i64 uk, .string us, .int .i64 un, .int .i64 unum, .slice a3 n3 c3] 63) (.cells #[.int .i64 take, .int .i64 uk, .string us, .int .i64 un, .int .i64 unum, .slice a3p n3 c3p] 63) #[.int .i64 take, .int .i64 uk, .string us, .int .i64 un, .int .i64 unum, .slice a3 n3 c3] 63 2 _ rfl rfl
            have h2p := two_rows_b wx (.cells #[.int .i64 take, .int .i64 uk, .string us, .int .i64 un, .int .i64 unum, .slice a3 n3 c3] 63) (.cells #[.int .i64 take, .int .i64 uk, .string us, .int .i64 un, .int .i64 unum, .slice a3p n3 c3p] 63) #[.int .i64 take, .int .i64 uk, .string us, .int .i64 un, .int .i64 unum, .slice a3p n3 c3p] 63 2 _ rfl rfl
            have h3 := two_rows_a wx (.cells #[.int .i64 take, .int .i64 uk, .string us, .int .i64 un, .int .i64 unum, .slice a3 n3 c3] 63) (.cells #[.int .i64 take, .int .i64 uk, .string us, .int .i64 un, .int .i64 unum, .slice a3p n3 c3p] 63) #[.int .i64 take, .int .i64 uk, .string us, .int .i64 un, .int .i64 unum, .slice a3 n3 c3] 63 3 _ rfl rfl
            have h3p := two_rows_b wx (.cells #[.int .i64 take, .int .i64 uk, .string us, .int .i64 un, .int .i64 unum, .slice a3 n3 c3] 63) (.cells #[.int .i64 take, .int .i64 uk, .string us, .int .i64 un, .int .i64 unum, .slice a3p n3 c3p] 63) #[.int .i64 take, .int .i64 uk, .string us, .int .i64 un, .int .i64 unum, .slice a3p n3 c3p] 63 3 _ rfl rfl
            have h4 := two_rows_a wx (.cells #[.int .i64 take, .int .i64 uk, .string us, .int .i64 un, .int .i64 unum, .slice a3 n3 c3] 63) (.cells #[.int .i64 take, .int .i64 uk, .string us, .int .i64 un, .int .i64 unum, .slice a3p n3 c3p] 63) #[.int .i64 take, .int .i64 uk, .string us, .int .i64 un, .int .i64 unum, .slice a3 n3 c3] 63 4 _ rfl rfl
            have h4p := two_rows_b wx (.cells #[.int .i64 take, .int .i64 uk, .string us, .int .i64 un, .int .i64 unum, .slice a3 n3 c3] 63) (.cells #[.int .i64 take, .int .i64 uk, .string us, .int .i64 un, .int .i64 unum, .slice a3p n3 c3p] 63) #[.int .i64 take, .int .i64 uk, .string us, .int .i64 un, .int .i64 unum, .slice a3p n3 c3p] 63 4 _ rfl rfl
            have h5 := two_rows_a wx (.cells #[.int .i64 take, .int .i64 uk, .string us, .int .i64 un, .int .i64 unum, .slice a3 n3 c3] 63) (.cells #[.int .i64 take, .int .i64 uk, .string us, .int .i64 un, .int .i64 unum, .slice a3p n3 c3p] 63) #[.int .i64 take, .int .i64 uk, .string us, .int .i64 un, .int .i64 unum, .slice a3 n3 c3] 63 5 _ rfl rfl
            have h5p := two_rows_b wx (.cells #[.int .i64 take, .int .i64 uk, .string us, .int .i64 un, .int .i64 unum, .slice a3 n3 c3] 63) (.cells #[.int .i64 take, .int .i64 uk, .string us, .int .i64 un, .int .i64 unum, .slice a3p n3 c3p] 63) #[.int .i64 take, .int .i64 uk, .string us, .int .i64 un, .int .i64 unum, .slice a3p n3 c3p] 63 5 _ rfl rfl
            have s0 : (wx.alloc (.cells #[.int .i64 take, .int .i64 uk, .string us, .int .i64 un, .int .i64 unum, .slice a3 n3 c3] 63)).cell? ⟨b2p, o2p + k * 6, none⟩ = some (Value.int .i64 take) := (World.cell?_of_block (Below.heap_alloc wx _ _ SZB)).trans i0p
            have s1 : (wx.alloc (.cells #[.int .i64 take, .int .i64 uk, .string us, .int .i64 un, .int .i64 unum, .slice a3 n3 c3] 63)).cell? ⟨b2p, o2p + k * 6 + 1, none⟩ = some (Value.int .i64 uk) := (World.cell?_of_block (Below.heap_alloc wx _ _ SZB)).trans i1p
            have s2 : (wx.alloc (.cells #[.int .i64 take, .int .i64 uk, .string us, .int .i64 un, .int .i64 unum, .slice a3 n3 c3] 63)).cell? ⟨b2p, o2p + k * 6 + 2, none⟩ = some (Value.string us) := (World.cell?_of_block (Below.heap_alloc wx _ _ SZB)).trans i2p
            have s3 : (wx.alloc (.cells #[.int .i64 take, .int .i64 uk, .string us, .int .i64 un, .int .i64 unum, .slice a3 n3 c3] 63)).cell? ⟨b2p, o2p + k * 6 + 3, none⟩ = some (Value.int .i64 un) := (World.cell?_of_block (Below.heap_alloc wx _ _ SZB)).trans i3p
            have s4 : (wx.alloc (.cells #[.int .i64 take, .int .i64 uk, .string us, .int .i64 un, .int .i64 unum, .slice a3 n3 c3] 63)).cell? ⟨b2p, o2p + k * 6 + 4, none⟩ = some (Value.int .i64 unum) := (World.cell?_of_block (Below.heap_alloc wx _ _ SZB)).trans i4p
            have s5 : (wx.alloc (.cells #[.int .i64 take, .int .i64 uk, .string us, .int .i64 un, .int .i64 unum, .slice a3 n3 c3] 63)).cell? ⟨b2p, o2p + k * 6 + 5, none⟩ = some (Value.slice a3p n3 c3p) := (World.cell?_of_block (Below.heap_alloc wx _ _ SZB)).trans i5p
            have HH5 := Lib.hid h5
            have HH5p := Lib.hid h5p
            have HhY := Lib.hid hY
            have HhYp := Lib.hid hYp
            go_wp2_with fail
            refine (HU.out _).mono ?_
            rintro e w5 ⟨rfl, hb5⟩
            have HB5 : Hid (Below wx.heap.size wx w5) := Lib.hid (HY.out.trans (hb5.mono HY.out.size))
            have j5 := (hb5.cell (p := ⟨wx.heap.size, 5, none⟩) HhY.out).trans HH5.out
            have j5p := (hb5.cell (p := ⟨wx.heap.size + 1, 5, none⟩) HhYp.out).trans HH5p.out
            clear hb5
            go_wp2_with fail
            refine (HC.out _ (HXx.out.trans (HB5.out.mono HXx.out.size))).mono ?_
            rintro e w6 ⟨rfl, hb6⟩
            have HB6 : Hid (Below wx.heap.size wx w6) := Lib.hid (HB5.out.trans (hb6.mono HB5.out.size))
            clear hb6
            go_wp2_with fail
            go_roundw
            case rel => exact ⟨k + 1, r2, by go_num, by omega, Lib.hid (HBx.out.trans (HB6.out.mono HBx.out.size)), HREST2⟩
            case measure => simp [intOf]; omega
end Go.Proofs.YtoidogfnjpmceaaDoor
