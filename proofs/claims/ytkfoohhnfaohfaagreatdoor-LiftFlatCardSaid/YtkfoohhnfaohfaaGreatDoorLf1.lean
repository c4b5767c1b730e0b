/- The law's own look for a Fn in an expression: what it answers. No conditions. -/
import Derived.Test.YtkfoohhnfaohfaaGreatDoorSm3
namespace Go.Proofs.YtkfoohhnfaohfaaGreatDoor
open Go.ChangeShapes Go.WideShapes Go.ChangeAt Go.RowKit

/-- Is there no Fn (6)? -/
def Ex.flatB : Ex → Bool
  | .nil => true
  | .expr op _ _ _ l alts r => (!(op == 6) && l.flatB && alts.flatB) && r.flatB
  | .alt _ _ _ _ e r => e.flatB && r.flatB
def exFlat (op : Int) (l alts : Ex) : Bool := !(op == 6) && l.flatB && alts.flatB

set_option maxRecDepth 100000 in
set_option maxHeartbeats 8000000 in
theorem flat_any (m : Nat) : ∀ (op : Int) (nm : ByteArray) (num : Int) (names : List ByteArray) (L alts : Ex), 1 + names.length + L.cost + alts.cost ≤ m → ∀ (v1 v2 v3 : Value) (w : World), nm.size ≤ reach → L.wf true → alts.wf false →
    (SlAt w v1 names.length fun b o => TxIn w names b o) → (SlAt w v2 L.len fun b o => ExIn w L b o 0) → (SlAt w v3 alts.len fun b o => ExIn w alts b o 0) →
    Calls Tryz.prog 6 #[.agg #[.int .i64 op, .string nm, .int .i64 num, v1, v2, v3]] w (Grew (.bool (exFlat op L alts)) w) := by
  induction m with
  | zero => intro op nm num names L alts h; omega
  | succ m IH =>
    intro op nm num names L alts hm v1 v2 v3 w hnm hwl hwa hv1 hv2 hv3
    have HI := Lib.hid IH
    have HM := Lib.hid hm
    obtain ⟨n1, a1, c1, -, rfl⟩ := sl_form hv1
    obtain ⟨hlen2, a2, c2, rfl, -, hs2⟩ := hv2
    obtain ⟨hlen3, a3, c3, rfl, -, hs3⟩ := hv3
    have HV2 := Lib.hid hs2
    have HV3 := Lib.hid hs3
    have HW2 := Lib.hid hwl
    have HW3 := Lib.hid hwa
    obtain ⟨n2, hn2⟩ : ∃ n, n = L.len := ⟨_, rfl⟩
    obtain ⟨n3, hn3⟩ : ∃ n, n = alts.len := ⟨_, rfl⟩
    have HN2 := Lib.hid hn2
    have HN3 := Lib.hid hn3
    rw [← hn2] at hlen2 HV2
    rw [← hn3] at hlen3 HV3
    have hx2 : (n2 : Int) ≤ 140737488355328 := by have : n2 ≤ 140737488355328 := hlen2; omega
    have hx3 : (n3 : Int) ≤ 140737488355328 := by have : n3 ≤ 140737488355328 := hlen3; omega
    rw [← hn2, ← hn3]
    obtain ⟨A, hA⟩ : ∃ A, A = alts.flatB := ⟨_, rfl⟩
    obtain ⟨B, hB⟩ : ∃ B, B = L.flatB := ⟨_, rfl⟩
    have HA := Lib.hid hA
    have HBB := Lib.hid hB
    by_cases hop : op = 6
    · have hfl : exFlat op L alts = false := by rw [hop]; rfl
      rw [hfl]
      subst hop
      clear IH hm hs2 hs3 hlen2 hlen3 hn2 hn3 hnm hwl hwa hA hB hfl hv1
      go_enter Tryz.func6, Tryz.ntmps6
      go_wp2_with fail
      go_ret
      exact ⟨rfl, (Below.refl _ w).alloc (Nat.le_refl _) _⟩
    · obtain ⟨X, hX⟩ : ∃ X, X = exFlat op L alts := ⟨_, rfl⟩
      have HX : Hid (X = (B && A)) := Lib.hid (by rw [hX, hA, hB, exFlat, show (op == 6) = false by simpa using hop]; simp)
      rw [← hX]
      clear IH hm hs2 hs3 hlen2 hlen3 hn2 hn3 hnm hwl hwa hA hB hX hv1
      have HB0 := Lib.hid (Below.refl (w.heap.size + 1) (w.alloc (.cells #[.int .i64 op, .string nm, .int .i64 num, .slice a1 n1 c1, .slice a2 n2 c2, .slice a3 n3 c3] 33)))
      go_enter Tryz.func6, Tryz.ntmps6
      go_wp2_with fail
      go_loopw [3] (fun vi wr => ∃ (i : Nat) (r : Ex), vi = .int .i64 (i : Int) ∧ i + r.len = n2 ∧ Hid (Below (w.heap.size + 1) (w.alloc (.cells #[.int .i64 op, .string nm, .int .i64 num, .slice a1 n1 c1, .slice a2 n2 c2, .slice a3 n3 c3] 33)) wr ∧ (0 < r.len → ∃ b o, a2 = some ⟨b, o, none⟩ ∧ b < w.heap.size ∧ ExIn wr r b o i) ∧ r.wf true ∧ r.cost ≤ L.cost ∧ B = r.flatB)) (fun vi _ => n2 + 1 - (intOf vi).toNat)
      case atStart => exact ⟨0, L, rfl, by rw [Nat.zero_add]; exact HN2.out.symm, Lib.hid ⟨HB0.out, fun h => by
        obtain ⟨b, o, e1, e2, e3⟩ := HV2.out (by rw [HN2.out]; exact h)
        exact ⟨b, o, e1, e2, ExIn.below (below_of_kept HB0.out) e2 e3⟩, HW2.out, Nat.le_refl _, HBB.out⟩⟩
      case round =>
        obtain ⟨i2, r2, rfl, hir2, hR⟩ := hrel
        have k4 : wr.cell? ⟨w.heap.size, 4, none⟩ = some (.slice a2 n2 c2) := by
          rw [hR.out.1.cell (p := ⟨w.heap.size, 4, none⟩) (Nat.lt_succ_self _), cell_of_row _ w.heap.size 4 _ _ _ (heap_alloc_new w _)]
          rfl
        cases r2 with
        | nil =>
          simp only [Ex.len, Nat.add_zero] at hir2
          have HR := Lib.hid hR.out.1
          have HLT : Hid (B = true) := Lib.hid hR.out.2.2.2.2
          clear hR
          have hii : ¬ (i2 : Int) < (n2 : Int) := by omega
          go_wp2_with fail
          go_loopw [4] (fun vi wr => ∃ (i : Nat) (r : Ex), vi = .int .i64 (i : Int) ∧ i + r.len = n3 ∧ Hid (Below (w.heap.size + 1) (w.alloc (.cells #[.int .i64 op, .string nm, .int .i64 num, .slice a1 n1 c1, .slice a2 n2 c2, .slice a3 n3 c3] 33)) wr ∧ (0 < r.len → ∃ b o, a3 = some ⟨b, o, none⟩ ∧ b < w.heap.size ∧ ExIn wr r b o i) ∧ r.wf false ∧ r.cost ≤ alts.cost ∧ A = r.flatB)) (fun vi _ => n3 + 1 - (intOf vi).toNat)
          case atStart => exact ⟨0, alts, rfl, by rw [Nat.zero_add]; exact HN3.out.symm, Lib.hid ⟨HR.out, fun h => by
            obtain ⟨b, o, e1, e2, e3⟩ := HV3.out (by rw [HN3.out]; exact h)
            exact ⟨b, o, e1, e2, ExIn.below (below_of_kept HR.out) e2 e3⟩, HW3.out, Nat.le_refl _, HA.out⟩⟩
          case round =>
            clear HR
            obtain ⟨i3, r3, rfl, hir3, hR⟩ := hrel
            have k5 : wr.cell? ⟨w.heap.size, 5, none⟩ = some (.slice a3 n3 c3) := by
              rw [hR.out.1.cell (p := ⟨w.heap.size, 5, none⟩) (Nat.lt_succ_self _), cell_of_row _ w.heap.size 5 _ _ _ (heap_alloc_new w _)]
              rfl
            cases r3 with
            | nil =>
              simp only [Ex.len, Nat.add_zero] at hir3
              have HR := Lib.hid hR.out
              clear hR
              have hii : ¬ (i3 : Int) < (n3 : Int) := by omega
              have HT : Hid (X = true) := Lib.hid (by rw [HX.out, HLT.out, HR.out.2.2.2.2]; rfl)
              go_wp2_with fail
              go_ret
              exact ⟨by rw [HT.out]; rfl, below_kept HR.out.1⟩
            | expr => exact absurd hR.out.2.2.1.1 (by simp)
            | alt take anm anum anames ae r3 =>
              simp only [Ex.len] at hir3
              obtain ⟨hb1, hin, hwf, hco, hfn⟩ := hR.out
              obtain ⟨b, o, rfl, hbw, ht⟩ := hin (by simp only [Ex.len]; omega)
              obtain ⟨av, a1', a2', a3', c3', c3s, ce, hrest⟩ := alIn_cells ht
              obtain ⟨hwe, hle, hwr⟩ := al_wf hwf
              obtain ⟨op', nm', num', names', L', alts', rfl⟩ := one_expr hwe hle
              obtain ⟨hwl', hwa', -⟩ := ex_wf hwe
              obtain ⟨hnm', d3, d4, d5, d0, d1, d2, f3, f4, f5, g3, g4, g5, -⟩ := exIn_cells ce
              simp only [Nat.zero_mul, Nat.add_zero] at d0 d1 d2 f3 f4 f5
              have HRR := Lib.hid hrest
              have HB := Lib.hid hb1
              have HCO := Lib.hid hco
              have HWR := Lib.hid hwr
              have HC := HI.out op' nm' num' names' L' alts' (by have := HM.out; simp only [Ex.cost] at hco; omega) d3 d4 d5 wr hnm' hwl' hwa' g3 g4 g5
              obtain ⟨c, hc⟩ : ∃ c, c = exFlat op' L' alts' := ⟨_, rfl⟩
              rw [← hc] at HC
              have HF : Hid (A = (c && r3.flatB)) := Lib.hid (by rw [hfn, hc]; simp [Ex.flatB, exFlat])
              have HC := Lib.hid HC
              have hii : (i3 : Int) < (n3 : Int) := by omega
              have hi0 : (0 : Int) ≤ (i3 : Int) := by omega
              clear hR hin hfn hb1 ht ce hrest hco hwr hwf hwe hle hwl' hwa' hnm' g3 g4 g5 c3' c3s hc
              go_wp2_with fail
              refine HC.out.mono ?_
              rintro e w2 ⟨rfl, hb2⟩
              have HB2 := Lib.hid hb2
              clear hb2 HC
              cases c
              · have HT : Hid (X = false) := Lib.hid (by rw [HX.out, HF.out]; simp)
                go_wp2_with fail
                go_ret
                exact ⟨by rw [HT.out]; rfl, (below_kept HB.out).trans (HB2.out.mono (by have := kept_size HB.out; omega))⟩
              · go_wp2_with fail
                go_roundw
                case rel =>
                  refine ⟨i3 + 1, r3, by go_num, by omega, Lib.hid ⟨HB.out.trans (HB2.out.mono (kept_size HB.out)), fun _ => ⟨b, o, rfl, hbw, ExIn.below HB2.out (by have := kept_size HB.out; omega) HRR.out⟩, HWR.out, ?_, ?_⟩⟩
                  · have := HCO.out; simp only [Ex.cost] at this; omega
                  · have := HF.out; simpa using this
                case measure => simp [intOf]; omega
        | alt => exact absurd hR.out.2.2.1.1 (by simp)
        | expr op' nm' num' names' L' alts' r2 =>
          simp only [Ex.len] at hir2
          obtain ⟨hb1, hin, hwf, hco, hfn⟩ := hR.out
          obtain ⟨b, o, rfl, hbw, ht⟩ := hin (by simp only [Ex.len]; omega)
          obtain ⟨hwl', hwa', hwr⟩ := ex_wf hwf
          obtain ⟨hnm', d3, d4, d5, d0, d1, d2, f3, f4, f5, g3, g4, g5, hrest⟩ := exIn_cells ht
          have HRR := Lib.hid hrest
          have HB := Lib.hid hb1
          have HCO := Lib.hid hco
          have HWR := Lib.hid hwr
          have HC := HI.out op' nm' num' names' L' alts' (by have := HM.out; simp only [Ex.cost] at hco; omega) d3 d4 d5 wr hnm' hwl' hwa' g3 g4 g5
          obtain ⟨c, hc⟩ : ∃ c, c = exFlat op' L' alts' := ⟨_, rfl⟩
          rw [← hc] at HC
          have HF : Hid (B = (c && r2.flatB)) := Lib.hid (by rw [hfn, hc]; simp [Ex.flatB, exFlat])
          have HC := Lib.hid HC
          have hii : (i2 : Int) < (n2 : Int) := by omega
          have hi0 : (0 : Int) ≤ (i2 : Int) := by omega
          clear hR hin hfn hb1 ht hrest hco hwr hwf hwl' hwa' hnm' g3 g4 g5 hc
          go_wp2_with fail
          refine HC.out.mono ?_
          rintro e w2 ⟨rfl, hb2⟩
          have HB2 := Lib.hid hb2
          clear hb2 HC
          cases c
          · have HT : Hid (X = false) := Lib.hid (by rw [HX.out, HF.out]; simp)
            go_wp2_with fail
            go_ret
            exact ⟨by rw [HT.out]; rfl, (below_kept HB.out).trans (HB2.out.mono (by have := kept_size HB.out; omega))⟩
          · go_wp2_with fail
            go_roundw
            case rel =>
              refine ⟨i2 + 1, r2, by go_num, by omega, Lib.hid ⟨HB.out.trans (HB2.out.mono (kept_size HB.out)), fun _ => ⟨b, o, rfl, hbw, ExIn.below HB2.out (by have := kept_size HB.out; omega) HRR.out⟩, HWR.out, ?_, ?_⟩⟩
              · have := HCO.out; simp only [Ex.cost] at this; omega
              · have := HF.out; simpa using this
            case measure => simp [intOf]; omega
end Go.Proofs.YtkfoohhnfaohfaaGreatDoor
