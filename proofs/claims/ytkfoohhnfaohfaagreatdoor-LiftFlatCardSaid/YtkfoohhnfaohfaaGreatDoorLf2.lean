/- lift.isFlat: what it answers of an expression that is not too great. Conditions: its parts are fewer than what is left, its levels fewer than what may be. -/
import Derived.Test.YtkfoohhnfaohfaaGreatDoorLf1
namespace Go.Proofs.YtkfoohhnfaohfaaGreatDoor
open Go.ChangeShapes Go.WideShapes Go.ChangeAt Go.RowKit

theorem gb_refl (w : World) (row : Option Nat) : w.grownBy w row := ⟨rfl, rfl, rfl, Nat.le_refl _, fun _ _ _ => rfl⟩
theorem gb_trans {a w w' : World} {row : Option Nat} (h : a.grownBy w row) (k : w.grownBy w' row) : a.grownBy w' row :=
  ⟨k.os.trans h.os, k.tape.trans h.tape, k.output.trans h.output, Nat.le_trans h.size k.size, fun i hi hr => (k.block i (Nat.lt_of_lt_of_le hi h.size) hr).trans (h.block i hi hr)⟩
theorem gb_alloc {a w : World} {row : Option Nat} (h : a.grownBy w row) (o : Obj) : a.grownBy (w.alloc o) row := gb_trans h (World.grownBy_alloc w o row)
theorem gb_set {a w : World} {b : Nat} (h : a.grownBy w (some b)) (i : Nat) (v : Value) : a.grownBy (w.setCell ⟨b, i, none⟩ v) (some b) :=
  gb_trans h ⟨rfl, rfl, rfl, by simp [World.setCell], fun k _ hk => Below.heap_setCell _ _ _ _ (fun e => hk (by simp [e]))⟩
theorem below_gb {w0 w w' : World} {pb : Nat} (h : Below w0.heap.size w0 w) (hg : w.grownBy w' (some pb)) (hp : w0.heap.size ≤ pb) : Below w0.heap.size w0 w' := h.grown hg h.size fun k hk => by injection hk with hk; omega
theorem cell_alloc_old (w : World) (o : Obj) (a : Addr) (h : a.block < w.heap.size) : (w.alloc o).cell? a = w.cell? a := World.cell?_of_block (Below.heap_alloc w o _ h)
theorem frozen_alloc_old (w : World) (o : Obj) (a : Addr) (h : a.block < w.heap.size) : (w.alloc o).frozen? a = w.frozen? a := World.frozen?_of_block (Below.heap_alloc w o _ h)

/-- An answer, and what is left in the variable: as much as was but for the cost, where the answer is yes. -/
def LeftPost (X : Bool) (w : World) (pb : Nat) (q : Int) (cost : Nat) (e : Ending) (w' : World) : Prop := ∃ q' : Int, e = .returned (.bool X) ∧ w.grownBy w' (some pb) ∧ w'.cell? ⟨pb, 0, none⟩ = some (.int .i64 q') ∧ w'.frozen? ⟨pb, 0, none⟩ = false ∧ (X = true → q ≤ q' + cost) ∧ q' ≤ q
theorem leftPost_mk {X : Bool} {w w' : World} {pb : Nat} {q q' : Int} {cost : Nat} {e : Ending} (h1 : e = .returned (.bool X)) (h2 : w.grownBy w' (some pb)) (h3 : w'.cell? ⟨pb, 0, none⟩ = some (.int .i64 q')) (h4 : w'.frozen? ⟨pb, 0, none⟩ = false) (h5 : X = true → q ≤ q' + cost) (h6 : q' ≤ q) : LeftPost X w pb q cost e w' := ⟨q', h1, h2, h3, h4, h5, h6⟩

set_option maxRecDepth 100000 in
set_option maxHeartbeats 8000000 in
theorem isFlat_any (m : Nat) : ∀ (op : Int) (nm : ByteArray) (num : Int) (names : List ByteArray) (L alts : Ex), 1 + names.length + L.cost + alts.cost ≤ m → ∀ (v1 v2 v3 : Value) (levels q : Int) (pb : Nat) (w0 w : World), nm.size ≤ reach → L.wf true → alts.wf false →
    (SlAt w0 v1 names.length fun b o => TxIn w0 names b o) → (SlAt w0 v2 L.len fun b o => ExIn w0 L b o 0) → (SlAt w0 v3 alts.len fun b o => ExIn w0 alts b o 0) → Below w0.heap.size w0 w → w0.heap.size ≤ pb → pb < w.heap.size → w.cell? ⟨pb, 0, none⟩ = some (.int .i64 q) → w.frozen? ⟨pb, 0, none⟩ = false →
    1 + (max L.tall alts.tall : Nat) ≤ levels → levels ≤ 65536 → 1 + names.length + L.cost + alts.cost ≤ q → q ≤ 2147483647 →
    Calls Tryz.prog 16 #[.agg #[.int .i64 op, .string nm, .int .i64 num, v1, v2, v3], .int .i64 levels, .pointer (some ⟨pb, 0, none⟩)] w (LeftPost (exFlat op L alts) w pb q (1 + names.length + L.cost + alts.cost)) := by
  induction m with
  | zero => intro op nm num names L alts h; omega
  | succ m IH =>
    intro op nm num names L alts hm v1 v2 v3 levels q pb w0 w hnm hwl hwa hv1 hv2 hv3 hb0 hpb hpw hcell hfrz hlv hlv2 hq hq9
    have HI := Lib.hid IH
    have HM := Lib.hid hm
    have HLV := Lib.hid hlv
    have HQ := Lib.hid hq
    have hlv1 : 1 ≤ levels := by omega
    have hq0 : 1 ≤ q := by omega
    obtain ⟨n1, a1, c1, -, rfl⟩ := sl_form hv1
    obtain ⟨hlen2, a2, c2, rfl, -, hs2⟩ := hv2
    obtain ⟨hlen3, a3, c3, rfl, -, hs3⟩ := hv3
    have HV2 := Lib.hid hs2
    have HV3 := Lib.hid hs3
    have HW2 := Lib.hid hwl
    have HW3 := Lib.hid hwa
    obtain ⟨n2, hn2⟩ : ∃ n, n = L.len := ⟨_, rfl⟩
    obtain ⟨n3, hn3⟩ : ∃ n, n = alts.len := ⟨_, rfl⟩
    have HN2 := Lib.hid hn2
    have HN3 := Lib.hid hn3
    rw [← hn2] at hlen2 HV2
    rw [← hn3] at hlen3 HV3
    have hx2 : (n2 : Int) ≤ 140737488355328 := by have : n2 ≤ 140737488355328 := hlen2; omega
    have hx3 : (n3 : Int) ≤ 140737488355328 := by have : n3 ≤ 140737488355328 := hlen3; omega
    rw [← hn2, ← hn3]
    obtain ⟨A, hA⟩ : ∃ A, A = alts.flatB := ⟨_, rfl⟩
    obtain ⟨B, hB⟩ : ∃ B, B = L.flatB := ⟨_, rfl⟩
    have HA := Lib.hid hA
    have HBB := Lib.hid hB
    obtain ⟨X, hX⟩ : ∃ X, X = exFlat op L alts := ⟨_, rfl⟩
    have hne : pb ≠ w.heap.size := by omega
    obtain ⟨W0, hW0⟩ : ∃ W0, W0 = w.setCell ⟨pb, 0, none⟩ (.int .i64 (q - 1)) := ⟨_, rfl⟩
    have hsz : W0.heap.size = w.heap.size := by rw [hW0]; simp [World.setCell]
    have hgw : w.grownBy (W0.alloc (.cells #[.int .i64 op, .string nm, .int .i64 num, .slice a1 n1 c1, .slice a2 n2 c2, .slice a3 n3 c3] 33)) (some pb) := by rw [hW0]; exact gb_alloc (gb_set (gb_refl _ _) _ _) _
    have hrow : (W0.alloc (.cells #[.int .i64 op, .string nm, .int .i64 num, .slice a1 n1 c1, .slice a2 n2 c2, .slice a3 n3 c3] 33)).heap[w.heap.size]? = some (.cells #[.int .i64 op, .string nm, .int .i64 num, .slice a1 n1 c1, .slice a2 n2 c2, .slice a3 n3 c3] 33) := by rw [← hsz]; exact heap_alloc_new W0 _
    have hs0 : (W0.alloc (.cells #[.int .i64 op, .string nm, .int .i64 num, .slice a1 n1 c1, .slice a2 n2 c2, .slice a3 n3 c3] 33)).cell? ⟨w.heap.size, 0, none⟩ = some (.int .i64 op) := by rw [cell_of_row _ w.heap.size 0 _ _ _ hrow]; rfl
    have hs4 : (W0.alloc (.cells #[.int .i64 op, .string nm, .int .i64 num, .slice a1 n1 c1, .slice a2 n2 c2, .slice a3 n3 c3] 33)).cell? ⟨w.heap.size, 4, none⟩ = some (.slice a2 n2 c2) := by rw [cell_of_row _ w.heap.size 4 _ _ _ hrow]; rfl
    have hs5 : (W0.alloc (.cells #[.int .i64 op, .string nm, .int .i64 num, .slice a1 n1 c1, .slice a2 n2 c2, .slice a3 n3 c3] 33)).cell? ⟨w.heap.size, 5, none⟩ = some (.slice a3 n3 c3) := by rw [cell_of_row _ w.heap.size 5 _ _ _ hrow]; rfl
    have hsp : (W0.alloc (.cells #[.int .i64 op, .string nm, .int .i64 num, .slice a1 n1 c1, .slice a2 n2 c2, .slice a3 n3 c3] 33)).cell? ⟨pb, 0, none⟩ = some (.int .i64 (q - 1)) := by
      rw [cell_alloc_old _ _ _ (by rw [hsz]; exact hpw), hW0]
      exact World.cell?_setCell_same _ _ _ hcell
    have hzp : (W0.alloc (.cells #[.int .i64 op, .string nm, .int .i64 num, .slice a1 n1 c1, .slice a2 n2 c2, .slice a3 n3 c3] 33)).frozen? ⟨pb, 0, none⟩ = false := by
      rw [frozen_alloc_old _ _ _ (by rw [hsz]; exact hpw), hW0, World.frozen?_setCell]
      exact hfrz
    have hbs : Below w0.heap.size w0 (W0.alloc (.cells #[.int .i64 op, .string nm, .int .i64 num, .slice a1 n1 c1, .slice a2 n2 c2, .slice a3 n3 c3] 33)) := below_gb hb0 hgw hpb
    rw [hW0] at hgw hs0 hs4 hs5 hsp hzp hbs
    clear hrow hsz hW0
    have HG0 : Hid (((w.setCell ⟨pb, 0, none⟩ (.int .i64 (q - 1))).alloc (.cells #[.int .i64 op, .string nm, .int .i64 num, .slice a1 n1 c1, .slice a2 n2 c2, .slice a3 n3 c3] 33)).grownBy ((w.setCell ⟨pb, 0, none⟩ (.int .i64 (q - 1))).alloc (.cells #[.int .i64 op, .string nm, .int .i64 num, .slice a1 n1 c1, .slice a2 n2 c2, .slice a3 n3 c3] 33)) (some pb)) := Lib.hid (gb_refl _ _)
    have HGW := Lib.hid hgw
    have HC0 := Lib.hid hsp
    have HZ0 := Lib.hid hzp
    have HBS := Lib.hid hbs
    have HS5 := Lib.hid hs5
    clear hgw hsp hzp hbs hs5
    rw [← hX]
    by_cases hop : op = 6
    · have HT : Hid (X = false) := Lib.hid (by rw [hX, hop]; rfl)
      subst hop
      clear IH hm hs2 hs3 hlen2 hlen3 hn2 hn3 hnm hwl hwa hA hB hv1 hX hlv hq
      go_enter Tryz.func16, Tryz.ntmps16
      go_wp2_with fail
      go_ret
      exact leftPost_mk (by rw [HT.out]; rfl) HGW.out HC0.out HZ0.out (fun h => by rw [HT.out] at h; cases h) (by omega)
    · have HX0 : Hid (X = (B && A)) := Lib.hid (by rw [hX, hA, hB, exFlat, show (op == 6) = false by simpa using hop]; simp)
      have hl0 : (levels == 0) = false := by simp; omega
      have hop' : (op == 6) = false := by simpa using hop
      clear hop
      have hq1 : ¬ q - 1 < 0 := by omega
      clear IH hm hs2 hs3 hlen2 hlen3 hn2 hn3 hnm hwl hwa hA hB hv1 hX hlv hq
      go_enter Tryz.func16, Tryz.ntmps16
      go_wp2_with fail
      go_loopw [32] (fun vi wr => ∃ (i : Nat) (r : Ex) (q1 : Int), vi = .int .i64 (i : Int) ∧ i + r.len = n2 ∧ q1 ≤ 2147483647 ∧ Hid (((w.setCell ⟨pb, 0, none⟩ (.int .i64 (q - 1))).alloc (.cells #[.int .i64 op, .string nm, .int .i64 num, .slice a1 n1 c1, .slice a2 n2 c2, .slice a3 n3 c3] 33)).grownBy wr (some pb)) ∧ Hid (Below w0.heap.size w0 wr) ∧ Hid (wr.cell? ⟨pb, 0, none⟩ = some (.int .i64 q1)) ∧ Hid (wr.frozen? ⟨pb, 0, none⟩ = false) ∧ Hid (r.wf true) ∧ Hid (r.cost ≤ L.cost) ∧ Hid (1 + r.tall ≤ levels) ∧ Hid ((r.cost + alts.cost : Int) ≤ q1) ∧ Hid (q ≤ q1 + 1 + names.length + L.cost - r.cost ∧ q1 ≤ q) ∧ Hid (B = r.flatB) ∧ Hid (0 < r.len → ∃ b o, a2 = some ⟨b, o, none⟩ ∧ b < w0.heap.size ∧ ExIn w0 r b o i)) (fun vi _ => n2 + 1 - (intOf vi).toNat)
      case atStart => exact ⟨0, L, q - 1, rfl, by rw [Nat.zero_add]; exact HN2.out.symm, by omega, HG0, HBS, HC0, HZ0, HW2, Lib.hid (Nat.le_refl _), Lib.hid (by have := HLV.out; omega), Lib.hid (by have := HQ.out; omega), Lib.hid (by omega), HBB, Lib.hid fun h => HV2.out (by rw [HN2.out]; exact h)⟩
      case round =>
        clear HG0 HBS HC0 HZ0
        obtain ⟨i2, r2, q1, rfl, hir2, hq1, HG, HB0w, HC1, HZ1, HWF, HCO, HTL, HQ1, HQ2, HAB, HIN⟩ := hrel
        cases r2 with
        | nil =>
          simp only [Ex.len, Nat.add_zero] at hir2
          have HLT : Hid (B = true) := Lib.hid HAB.out
          have hii : ¬ (i2 : Int) < (n2 : Int) := by omega
          have k5 : wr.cell? ⟨w.heap.size, 5, none⟩ = some (.slice a3 n3 c3) := by
            exact HG.out.cell HS5.out (by simp; omega)
          clear HAB HIN
          go_wp2_with fail
          go_loopw [46] (fun vi wr => ∃ (i : Nat) (r : Ex) (q1 : Int), vi = .int .i64 (i : Int) ∧ i + r.len = n3 ∧ q1 ≤ 2147483647 ∧ Hid (((w.setCell ⟨pb, 0, none⟩ (.int .i64 (q - 1))).alloc (.cells #[.int .i64 op, .string nm, .int .i64 num, .slice a1 n1 c1, .slice a2 n2 c2, .slice a3 n3 c3] 33)).grownBy wr (some pb)) ∧ Hid (Below w0.heap.size w0 wr) ∧ Hid (wr.cell? ⟨pb, 0, none⟩ = some (.int .i64 q1)) ∧ Hid (wr.frozen? ⟨pb, 0, none⟩ = false) ∧ Hid (r.wf false) ∧ Hid (r.cost ≤ alts.cost) ∧ Hid (1 + r.tall ≤ levels) ∧ Hid ((r.cost : Int) ≤ q1) ∧ Hid (q ≤ q1 + 1 + names.length + L.cost + alts.cost - r.cost ∧ q1 ≤ q) ∧ Hid (A = r.flatB) ∧ Hid (0 < r.len → ∃ b o, a3 = some ⟨b, o, none⟩ ∧ b < w0.heap.size ∧ ExIn w0 r b o i)) (fun vi _ => n3 + 1 - (intOf vi).toNat)
          case atStart => exact ⟨0, alts, q1, rfl, by rw [Nat.zero_add]; exact HN3.out.symm, by omega, HG, HB0w, HC1, HZ1, HW3, Lib.hid (Nat.le_refl _), Lib.hid (by have := HLV.out; omega), Lib.hid (by have := HQ1.out; simp only [Ex.cost] at this; omega), Lib.hid (by have := HQ2.out; simp only [Ex.cost] at this; omega), HA, Lib.hid fun h => HV3.out (by rw [HN3.out]; exact h)⟩
          case round =>
            clear HG HB0w HC1 HZ1 HCO HTL HQ1 HQ2 hq1
            obtain ⟨i3, r3, q1, rfl, hir3, hq1, HG, HB0w, HC1, HZ1, HWF, HCO, HTL, HQ1, HQ2, HAB, HIN⟩ := hrel
            cases r3 with
            | nil =>
              simp only [Ex.len, Nat.add_zero] at hir3
              have hii : ¬ (i3 : Int) < (n3 : Int) := by omega
              have HT : Hid (X = true) := Lib.hid (by rw [HX0.out, HLT.out, HAB.out]; rfl)
              go_wp2_with fail
              go_ret
              exact leftPost_mk (by rw [HT.out]; rfl) (gb_trans HGW.out HG.out) HC1.out HZ1.out (fun _ => by have := HQ2.out; simp only [Ex.cost] at this; omega) HQ2.out.2
            | expr => exact absurd HWF.out.1 (by simp)
            | alt take anm anum anames ae r3 =>
              simp only [Ex.len] at hir3
              obtain ⟨b, o, rfl, hbw, ht⟩ := HIN.out (by simp only [Ex.len]; omega)
              obtain ⟨av, y0, y1, y2, y3, y4s, ce, hrest⟩ := alIn_cells ht
              obtain ⟨hwe, hle, hwr⟩ := al_wf HWF.out
              obtain ⟨op', nm', num', names', L', alts', rfl⟩ := one_expr hwe hle
              obtain ⟨hwl', hwa', -⟩ := ex_wf hwe
              obtain ⟨hnm', d3, d4, d5, x0, x1, x2, x3, x4, x5, g3, g4, g5, -⟩ := exIn_cells ce
              simp only [Nat.zero_mul, Nat.add_zero] at x0 x1 x2 x3 x4 x5
              obtain ⟨m0, b0, e0, hm0, rfl⟩ := sl_form y4s
              obtain ⟨m1, b1, e1, hm1, rfl⟩ := sl_form g3
              obtain ⟨m2, b2, e2, hm2, rfl⟩ := sl_form g4
              obtain ⟨m3, b3, e3, hm3, rfl⟩ := sl_form g5
              have HX := Lib.hid (show nm'.size ≤ reach ∧ _ ∧ _ ∧ _ ∧ _ ∧ _ from ⟨hnm', hwl', hwa', g3, g4, g5⟩)
              have HRR := Lib.hid hrest
              have HWR := Lib.hid hwr
              have hbel : ∀ k, wr.cell? ⟨b, k, none⟩ = w0.cell? ⟨b, k, none⟩ := fun k => HB0w.out.cell (p := ⟨b, k, none⟩) hbw
              have y0' := (hbel _).trans y0
              have y1' := (hbel _).trans y1
              have y2' := (hbel _).trans y2
              have y3' := (hbel _).trans y3
              have x0' : wr.cell? ⟨b, o + i3 * 10 + 4, none⟩ = some (.int .i64 op') := (hbel _).trans x0
              have x1' : wr.cell? ⟨b, o + i3 * 10 + 5, none⟩ = some (.string nm') := (hbel _).trans x1
              have x2' : wr.cell? ⟨b, o + i3 * 10 + 6, none⟩ = some (.int .i64 num') := (hbel _).trans x2
              have x3' : wr.cell? ⟨b, o + i3 * 10 + 7, none⟩ = some (.slice b1 m1 e1) := (hbel _).trans x3
              have x4' : wr.cell? ⟨b, o + i3 * 10 + 8, none⟩ = some (.slice b2 m2 e2) := (hbel _).trans x4
              have x5' : wr.cell? ⟨b, o + i3 * 10 + 9, none⟩ = some (.slice b3 m3 e3) := (hbel _).trans x5
              have hii : (i3 : Int) < (n3 : Int) := by omega
              have hi0 : (0 : Int) ≤ (i3 : Int) := by omega
              clear hbel y0 y1 y2 y3 x0 x1 x2 x3 x4 x5 ht ce hrest hwr hwe hle hwl' hwa' hnm' g3 g4 g5 y4s hm0 hm1 hm2 hm3
              have HG1 := Lib.hid (gb_alloc HG.out (.cells #[.int .i64 take, .string anm, .int .i64 anum, .slice b0 m0 e0, .int .i64 op', .string nm', .int .i64 num', .slice b1 m1 e1, .slice b2 m2 e2, .slice b3 m3 e3] 56))
              have hszp : pb < wr.heap.size := by have := HG.out.size; simp at this; omega
              have hcp : (wr.alloc (.cells #[.int .i64 take, .string anm, .int .i64 anum, .slice b0 m0 e0, .int .i64 op', .string nm', .int .i64 num', .slice b1 m1 e1, .slice b2 m2 e2, .slice b3 m3 e3] 56)).cell? ⟨pb, 0, none⟩ = some (.int .i64 q1) := (cell_alloc_old wr _ _ hszp).trans HC1.out
              have hfp : (wr.alloc (.cells #[.int .i64 take, .string anm, .int .i64 anum, .slice b0 m0 e0, .int .i64 op', .string nm', .int .i64 num', .slice b1 m1 e1, .slice b2 m2 e2, .slice b3 m3 e3] 56)).frozen? ⟨pb, 0, none⟩ = false := (frozen_alloc_old wr _ _ hszp).trans HZ1.out
              have HC := HI.out op' nm' num' names' L' alts' (by have := HM.out; have := HCO.out; simp only [Ex.cost] at this; omega) _ _ _ (levels - 1) q1 pb w0 (wr.alloc (.cells #[.int .i64 take, .string anm, .int .i64 anum, .slice b0 m0 e0, .int .i64 op', .string nm', .int .i64 num', .slice b1 m1 e1, .slice b2 m2 e2, .slice b3 m3 e3] 56)) HX.out.1 HX.out.2.1 HX.out.2.2.1 HX.out.2.2.2.1 HX.out.2.2.2.2.1 HX.out.2.2.2.2.2 (HB0w.out.trans ((Below.refl _ wr).alloc HB0w.out.size _)) hpb (by simp; omega) hcp hfp (by have := HTL.out; simp only [Ex.tall] at this; omega) (by omega) (by have := HQ1.out; simp only [Ex.cost] at this; omega) (by omega)
              obtain ⟨c, hc⟩ : ∃ c, c = exFlat op' L' alts' := ⟨_, rfl⟩
              rw [← hc] at HC
              have HCV := Lib.hid hc
              have HC := Lib.hid HC
              clear hc hcp hfp
              go_wp2_with fail
              refine HC.out.mono ?_
              rintro e w2 ⟨q2, rfl, hg2, hc2, hz2, hq2, hq3⟩
              have HG2 := Lib.hid hg2
              have HC2 := Lib.hid hc2
              have HZ2 := Lib.hid hz2
              have HQ3 := Lib.hid hq2
              clear hg2 hc2 hz2 hq2 HC
              have HF : Hid (A = (c && r3.flatB)) := Lib.hid (by rw [HAB.out, HCV.out]; simp [Ex.flatB, exFlat])
              cases c
              · have HT : Hid (X = false) := Lib.hid (by rw [HX0.out, HF.out]; simp)
                go_wp2_with fail
                go_ret
                exact leftPost_mk (by rw [HT.out]; rfl) (gb_trans HGW.out (gb_trans HG1.out HG2.out)) HC2.out HZ2.out (fun h => by rw [HT.out] at h; cases h) (by have := HQ2.out; omega)
              · go_wp2_with fail
                go_roundw
                case rel =>
                  refine ⟨i3 + 1, r3, q2, by go_num, by omega, by omega, Lib.hid (gb_trans HG1.out HG2.out), Lib.hid (below_gb (HB0w.out.trans ((Below.refl _ wr).alloc HB0w.out.size _)) HG2.out hpb), HC2, HZ2, HWR, Lib.hid ?_, Lib.hid ?_, Lib.hid ?_, Lib.hid ?_, Lib.hid ?_, Lib.hid fun _ => ⟨b, o, rfl, hbw, HRR.out⟩⟩
                  · have := HCO.out; simp only [Ex.cost] at this; omega
                  · have := HTL.out; simp only [Ex.tall] at this; omega
                  · have h1 := HQ1.out; have h2 := HQ3.out (by first | rfl | trivial); simp only [Ex.cost] at h1; omega
                  · have h1 := HQ2.out; have h2 := HQ3.out (by first | rfl | trivial); simp only [Ex.cost] at h1; omega
                  · have := HF.out; simpa using this
                case measure => simp [intOf]; omega
        | alt => exact absurd HWF.out.1 (by simp)
        | expr op' nm' num' names' L' alts' r2 =>
          simp only [Ex.len] at hir2
          obtain ⟨b, o, rfl, hbw, ht⟩ := HIN.out (by simp only [Ex.len]; omega)
          obtain ⟨hwl', hwa', hwr⟩ := ex_wf HWF.out
          obtain ⟨hnm', d3, d4, d5, x0, x1, x2, x3, x4, x5, g3, g4, g5, hrest⟩ := exIn_cells ht
          obtain ⟨m1, b1, e1, hm1, rfl⟩ := sl_form g3
          obtain ⟨m2, b2, e2, hm2, rfl⟩ := sl_form g4
          obtain ⟨m3, b3, e3, hm3, rfl⟩ := sl_form g5
          have HX := Lib.hid (show nm'.size ≤ reach ∧ _ ∧ _ ∧ _ ∧ _ ∧ _ from ⟨hnm', hwl', hwa', g3, g4, g5⟩)
          have HRR := Lib.hid hrest
          have HWR := Lib.hid hwr
          have hbel : ∀ k, wr.cell? ⟨b, k, none⟩ = w0.cell? ⟨b, k, none⟩ := fun k => HB0w.out.cell (p := ⟨b, k, none⟩) hbw
          have x0' := (hbel _).trans x0
          have x1' := (hbel _).trans x1
          have x2' := (hbel _).trans x2
          have x3' := (hbel _).trans x3
          have x4' := (hbel _).trans x4
          have x5' := (hbel _).trans x5
          have hii : (i2 : Int) < (n2 : Int) := by omega
          have hi0 : (0 : Int) ≤ (i2 : Int) := by omega
          clear hbel x0 x1 x2 x3 x4 x5 ht hrest hwr hwl' hwa' hnm' g3 g4 g5 hm1 hm2 hm3
          have HG1 := Lib.hid (gb_alloc HG.out (.cells #[.int .i64 op', .string nm', .int .i64 num', .slice b1 m1 e1, .slice b2 m2 e2, .slice b3 m3 e3] 33))
          have hszp : pb < wr.heap.size := by have := HG.out.size; simp at this; omega
          have hcp : (wr.alloc (.cells #[.int .i64 op', .string nm', .int .i64 num', .slice b1 m1 e1, .slice b2 m2 e2, .slice b3 m3 e3] 33)).cell? ⟨pb, 0, none⟩ = some (.int .i64 q1) := (cell_alloc_old wr _ _ hszp).trans HC1.out
          have hfp : (wr.alloc (.cells #[.int .i64 op', .string nm', .int .i64 num', .slice b1 m1 e1, .slice b2 m2 e2, .slice b3 m3 e3] 33)).frozen? ⟨pb, 0, none⟩ = false := (frozen_alloc_old wr _ _ hszp).trans HZ1.out
          have HC := HI.out op' nm' num' names' L' alts' (by have := HM.out; have := HCO.out; simp only [Ex.cost] at this; omega) _ _ _ (levels - 1) q1 pb w0 (wr.alloc (.cells #[.int .i64 op', .string nm', .int .i64 num', .slice b1 m1 e1, .slice b2 m2 e2, .slice b3 m3 e3] 33)) HX.out.1 HX.out.2.1 HX.out.2.2.1 HX.out.2.2.2.1 HX.out.2.2.2.2.1 HX.out.2.2.2.2.2 (HB0w.out.trans ((Below.refl _ wr).alloc HB0w.out.size _)) hpb (by simp; omega) hcp hfp (by have := HTL.out; simp only [Ex.tall] at this; omega) (by omega) (by have := HQ1.out; simp only [Ex.cost] at this; omega) (by omega)
          obtain ⟨c, hc⟩ : ∃ c, c = exFlat op' L' alts' := ⟨_, rfl⟩
          rw [← hc] at HC
          have HCV := Lib.hid hc
          have HC := Lib.hid HC
          clear hc hcp hfp
          go_wp2_with fail
          refine HC.out.mono ?_
          rintro e w2 ⟨q2, rfl, hg2, hc2, hz2, hq2, hq3⟩
          have HG2 := Lib.hid hg2
          have HC2 := Lib.hid hc2
          have HZ2 := Lib.hid hz2
          have HQ3 := Lib.hid hq2
          clear hg2 hc2 hz2 hq2 HC
          have HF : Hid (B = (c && r2.flatB)) := Lib.hid (by rw [HAB.out, HCV.out]; simp [Ex.flatB, exFlat])
          cases c
          · have HT : Hid (X = false) := Lib.hid (by rw [HX0.out, HF.out]; simp)
            go_wp2_with fail
            go_ret
            exact leftPost_mk (by rw [HT.out]; rfl) (gb_trans HGW.out (gb_trans HG1.out HG2.out)) HC2.out HZ2.out (fun h => by rw [HT.out] at h; cases h) (by have := HQ2.out; omega)
          · go_wp2_with fail
            go_roundw
            case rel =>
              refine ⟨i2 + 1, r2, q2, by go_num, by omega, by omega, Lib.hid (gb_trans HG1.out HG2.out), Lib.hid (below_gb (HB0w.out.trans ((Below.refl _ wr).alloc HB0w.out.size _)) HG2.out hpb), HC2, HZ2, HWR, Lib.hid ?_, Lib.hid ?_, Lib.hid ?_, Lib.hid ?_, Lib.hid ?_, Lib.hid fun _ => ⟨b, o, rfl, hbw, HRR.out⟩⟩
              · have := HCO.out; simp only [Ex.cost] at this; omega
              · have := HTL.out; simp only [Ex.tall] at this; omega
              · have h1 := HQ1.out; have h2 := HQ3.out (by first | rfl | trivial); simp only [Ex.cost] at h1; omega
              · have h1 := HQ2.out; have h2 := HQ3.out (by first | rfl | trivial); simp only [Ex.cost] at h1; omega
              · have := HF.out; simpa using this
            case measure => simp [intOf]; omega
end Go.Proofs.YtkfoohhnfaohfaaGreatDoor
