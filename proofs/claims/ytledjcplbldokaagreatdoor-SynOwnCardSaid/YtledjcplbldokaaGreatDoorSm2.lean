/- gristmillmake's counting of an expression: it ends, and what it lets through is small. No conditions but the numbers' bounds. -/
import Derived.Test.YtledjcplbldokaaGreatDoorSm1
import Derived.Deep.RegionHeld3
import Derived.Deep.DrawnRows
namespace Go.Proofs.YtledjcplbldokaaGreatDoor
open Go.ChangeShapes Go.WideShapes Go.ChangeAt Go.RowKit

theorem exIn_cells {w : World} {op : Int} {nm : ByteArray} {num : Int} {names : List ByteArray} {l alts r : Ex} {b o i : Nat} (h : ExIn w (.expr op nm num names l alts r) b o i) : nm.size ≤ reach ∧ ∃ v3 v4 v5, w.cell? ⟨b, o + i * 6, none⟩ = some (.int .i64 op) ∧ w.cell? ⟨b, o + i * 6 + 1, none⟩ = some (.string nm) ∧ w.cell? ⟨b, o + i * 6 + 2, none⟩ = some (.int .i64 num) ∧ w.cell? ⟨b, o + i * 6 + 3, none⟩ = some v3 ∧ w.cell? ⟨b, o + i * 6 + 4, none⟩ = some v4 ∧ w.cell? ⟨b, o + i * 6 + 5, none⟩ = some v5 ∧
    (SlAt w v3 names.length fun b o => TxIn w names b o) ∧ (SlAt w v4 l.len fun b o => ExIn w l b o 0) ∧ (SlAt w v5 alts.len fun b o => ExIn w alts b o 0) ∧ ExIn w r b o (i + 1) := by
  obtain ⟨⟨h1, h2, h3, k1, k2, k3, ⟨v, g1, g2⟩, ⟨v', g3, g4⟩, ⟨v'', g5, g6⟩⟩, h5⟩ := h
  exact ⟨k2, v, v', v'', h1, h2, h3, g1, g3, g5, g2, g4, g6, h5⟩
theorem alIn_cells {w : World} {take : Int} {nm : ByteArray} {num : Int} {names : List ByteArray} {e r : Ex} {b o i : Nat} (h : ExIn w (.alt take nm num names e r) b o i) : ∃ v3, w.cell? ⟨b, o + i * 10, none⟩ = some (.int .i64 take) ∧ w.cell? ⟨b, o + i * 10 + 1, none⟩ = some (.string nm) ∧ w.cell? ⟨b, o + i * 10 + 2, none⟩ = some (.int .i64 num) ∧ w.cell? ⟨b, o + i * 10 + 3, none⟩ = some v3 ∧
    (SlAt w v3 names.length fun b o => TxIn w names b o) ∧ ExIn w e b (o + i * 10 + 4) 0 ∧ ExIn w r b o (i + 1) := by
  obtain ⟨⟨h1, h2, h3, k1, k2, k3, ⟨v, g1, g2⟩, g3⟩, h5⟩ := h
  exact ⟨v, h1, h2, h3, g1, g2, g3, h5⟩
theorem ex_wf {op : Int} {nm : ByteArray} {num : Int} {names : List ByteArray} {l alts r : Ex} {k : Bool} (h : (Ex.expr op nm num names l alts r).wf k) : l.wf true ∧ alts.wf false ∧ r.wf true := h.2
theorem al_wf {take : Int} {nm : ByteArray} {num : Int} {names : List ByteArray} {e r : Ex} {k : Bool} (h : (Ex.alt take nm num names e r).wf k) : e.wf true ∧ e.len = 1 ∧ r.wf false := h.2
theorem one_expr {e : Ex} (h : e.wf true) (hl : e.len = 1) : ∃ op nm num names l alts, e = .expr op nm num names l alts .nil := by
  cases e with
  | nil => cases hl
  | alt => exact absurd h.1 (by simp)
  | expr op nm num names l alts r =>
    cases r with
    | nil => exact ⟨op, nm, num, names, l, alts, rfl⟩
    | expr => simp [Ex.len] at hl
    | alt => simp [Ex.len] at hl
theorem wrap_i64 {n : Int} (h1 : -9223372036854775808 ≤ n) (h2 : n ≤ 9223372036854775807) : IntKind.i64.wrap n = n := by
  have e3 : IntKind.i64.wrap n = if n % 18446744073709551616 ≥ 9223372036854775808 then n % 18446744073709551616 - 18446744073709551616 else n % 18446744073709551616 := by
    unfold IntKind.wrap
    simp [IntKind.bits, IntKind.signed]
  rw [e3]
  split <;> omega
theorem below_of_kept {w wr : World} {o : Obj} (h : Below (w.heap.size + 1) (w.alloc o) wr) : Below w.heap.size w wr := ((Below.refl _ w).alloc (Nat.le_refl _) _).trans (h.mono (Nat.le_succ _))
theorem below_kept {w wr : World} {o : Obj} (h : Below (w.heap.size + 1) (w.alloc o) wr) : Below w.heap.size w wr := below_of_kept h

attribute [local go_sem ↓] Go.wp_at_zero Go.wp_at_succ
set_option maxRecDepth 100000 in
set_option maxHeartbeats 8000000 in
theorem mkexpr_any (m : Nat) : ∀ (op : Int) (nm : ByteArray) (num : Int) (names : List ByteArray) (L alts : Ex), 1 + names.length + L.cost + alts.cost ≤ m → ∀ (v1 v2 v3 : Value) (left deep : Int) (w : World), nm.size ≤ reach → L.wf true → alts.wf false →
    (SlAt w v1 names.length fun b o => TxIn w names b o) → (SlAt w v2 L.len fun b o => ExIn w L b o 0) → (SlAt w v3 alts.len fun b o => ExIn w alts b o 0) → -1125899906842624 ≤ left → left ≤ 4294967296 → 0 ≤ deep → deep ≤ 31 →
    Calls Tryz.prog 13 #[.agg #[.int .i64 op, .string nm, .int .i64 num, v1, v2, v3], .int .i64 left, .int .i64 deep] w fun e w' => ∃ r : Int, e = .returned (.int .i64 r) ∧ Below w.heap.size w w' ∧ -1 ≤ r ∧ r ≤ 4294967296 ∧ (0 ≤ r → r + 1 + names.length + L.cost + alts.cost ≤ left ∧ deep + L.tall ≤ 30 ∧ deep + alts.tall ≤ 30 ∧ nm.size ≤ 60 ∧ txBrief names ∧ L.brief ∧ alts.brief) := by
  induction m with
  | zero => intro op nm num names L alts h; omega
  | succ m IH =>
    intro op nm num names L alts hm v1 v2 v3 left deep w hnm hwl hwa hv1 hv2 hv3 hl1 hl2 hd1 hd2
    have HI := Lib.hid IH
    have HM := Lib.hid hm
    obtain ⟨hlen1, a1, c1, rfl, -, hs1⟩ := hv1
    obtain ⟨hlen2, a2, c2, rfl, -, hs2⟩ := hv2
    obtain ⟨hlen3, a3, c3, rfl, -, hs3⟩ := hv3
    have HV1 := Lib.hid hs1
    have HV2 := Lib.hid hs2
    have HV3 := Lib.hid hs3
    have HW2 := Lib.hid hwl
    have HW3 := Lib.hid hwa
    have hnx : (nm.size : Int) ≤ 140737488355328 := by have : nm.size ≤ 140737488355328 := hnm; omega
    obtain ⟨n1, hn1⟩ : ∃ n, n = names.length := ⟨_, rfl⟩
    obtain ⟨n2, hn2⟩ : ∃ n, n = L.len := ⟨_, rfl⟩
    obtain ⟨n3, hn3⟩ : ∃ n, n = alts.len := ⟨_, rfl⟩
    have HN1 := Lib.hid hn1
    have HN2 := Lib.hid hn2
    have HN3 := Lib.hid hn3
    rw [← hn1] at hlen1 HV1
    rw [← hn2] at hlen2 HV2
    rw [← hn3] at hlen3 HV3
    have hx1 : (n1 : Int) ≤ 140737488355328 := by have : n1 ≤ 140737488355328 := hlen1; omega
    have hx2 : (n2 : Int) ≤ 140737488355328 := by have : n2 ≤ 140737488355328 := hlen2; omega
    have hx3 : (n3 : Int) ≤ 140737488355328 := by have : n3 ≤ 140737488355328 := hlen3; omega
    rw [← hn1, ← hn2, ← hn3]
    clear IH hm hs1 hs2 hs3 hlen1 hlen2 hlen3 hn1 hn2 hn3 hnm hwl hwa
    by_cases hdeep : (30 : Int) < deep
    · go_enter Tryz.func13, Tryz.ntmps13
      go_wp2_with fail
      go_ret
      exact ⟨-1, rfl, (Below.refl _ w).alloc (Nat.le_refl _) _, by omega, by omega, by omega⟩
    · by_cases hleft : left - 1 - (n1 : Int) < 0
      · go_enter Tryz.func13, Tryz.ntmps13
        go_wp2_with fail
        go_ret
        exact ⟨-1, rfl, (Below.refl _ w).alloc (Nat.le_refl _) _, by omega, by omega, by omega⟩
      · by_cases hname : (60 : Int) < (nm.size : Int)
        · go_enter Tryz.func13, Tryz.ntmps13
          go_wp2_with fail
          go_ret
          exact ⟨-1, rfl, (Below.refl _ w).alloc (Nat.le_refl _) _, by omega, by omega, by omega⟩
        · have HB0 := Lib.hid (Below.refl (w.heap.size + 1) (w.alloc (.cells #[.int .i64 op, .string nm, .int .i64 num, .slice a1 n1 c1, .slice a2 n2 c2, .slice a3 n3 c3] 35)))
          go_enter Tryz.func13, Tryz.ntmps13
          go_wp2_with fail
          go_loopw [7] (fun vi wr => ∃ (i : Nat), vi = .int .i64 (i : Int) ∧ i ≤ n1 ∧ Hid (Below (w.heap.size + 1) (w.alloc (.cells #[.int .i64 op, .string nm, .int .i64 num, .slice a1 n1 c1, .slice a2 n2 c2, .slice a3 n3 c3] 35)) wr ∧ ∀ j (h : j < names.length), j < i → names[j].size ≤ 60)) (fun vi _ => n1 + 1 - (intOf vi).toNat)
          case atStart => exact ⟨0, rfl, by omega, Lib.hid ⟨HB0.out, fun j _ h => by omega⟩⟩
          case round =>
            obtain ⟨i, rfl, hin, hB⟩ := hrel
            clear HB0
            have HB0 := Lib.hid hB.out.1
            have k3 : wr.cell? ⟨w.heap.size, 3, none⟩ = some (.slice a1 n1 c1) := by
              rw [HB0.out.cell (p := ⟨w.heap.size, 3, none⟩) (Nat.lt_succ_self _), cell_of_row _ w.heap.size 3 _ _ _ (heap_alloc_new w _)]
              rfl
            by_cases hii : (i : Int) < (n1 : Int)
            · have hi0 : (0 : Int) ≤ (i : Int) := by omega
              have hilt : i < names.length := by have := HN1.out; omega
              obtain ⟨b, o, rfl, hbw, ht⟩ := HV1.out (by omega)
              obtain ⟨t1, t2⟩ := ht i hilt
              obtain ⟨s, hs⟩ : ∃ s, s = names[i] := ⟨_, rfl⟩
              rw [← hs] at t1 t2
              have HS : Hid (∀ h : i < names.length, s = names[i]) := Lib.hid fun _ => hs
              have ht2 : (s.size : Int) ≤ 140737488355328 := by have : s.size ≤ 140737488355328 := t2; omega
              have k1 : wr.cell? ⟨b, o + i, none⟩ = some (.string s) := ((below_of_kept HB0.out).cell (p := ⟨b, o + i, none⟩) hbw).trans t1
              have HB := Lib.hid hB.out.2
              clear hs t1 t2 ht hB hilt
              by_cases hsz : (60 : Int) < (s.size : Int)
              · go_wp2_with fail
                go_ret
                exact ⟨-1, rfl, below_kept HB0.out, by omega, by omega, by omega⟩
              · go_wp2_with fail
                go_roundw
                case rel =>
                  refine ⟨i + 1, by go_num, by omega, Lib.hid ⟨HB0.out, fun j hj h => ?_⟩⟩
                  by_cases hji : j = i
                  · subst hji; have := HS.out hj; rw [← this]; omega
                  · exact HB.out j hj (by omega)
                case measure => simp [intOf]; omega
            · have HNM : Hid (txBrief names) := Lib.hid fun j hj => hB.out.2 j hj (by have := HN1.out; omega)
              clear hB
              go_wp2_with fail
              go_loopw [1, 8] (fun vl vi wr => ∃ (i : Nat) (l : Int) (r : Ex), vl = .int .i64 l ∧ vi = .int .i64 (i : Int) ∧ i + r.len = n2 ∧ -1 ≤ l ∧ l ≤ 4294967296 ∧ Hid (Below (w.heap.size + 1) (w.alloc (.cells #[.int .i64 op, .string nm, .int .i64 num, .slice a1 n1 c1, .slice a2 n2 c2, .slice a3 n3 c3] 35)) wr ∧ (0 < r.len → ∃ b o, a2 = some ⟨b, o, none⟩ ∧ b < w.heap.size ∧ ExIn wr r b o i) ∧ r.wf true ∧ r.cost ≤ L.cost ∧ (0 ≤ l → l + 1 + names.length + L.cost ≤ left + r.cost ∧ (deep + r.tall ≤ 30 → deep + L.tall ≤ 30) ∧ (r.brief → L.brief)))) (fun _ vi _ => n2 + 1 - (intOf vi).toNat)
              case atStart => exact ⟨0, left - 1 - (n1 : Int), L, rfl, rfl, by rw [Nat.zero_add]; exact HN2.out.symm, by omega, by omega, Lib.hid ⟨HB0.out, fun h => by
                obtain ⟨b, o, e1, e2, e3⟩ := HV2.out (by rw [HN2.out]; exact h)
                exact ⟨b, o, e1, e2, ExIn.below (below_of_kept HB0.out) e2 e3⟩, HW2.out, Nat.le_refl _, fun _ => ⟨by have := HN1.out; omega, id, id⟩⟩⟩
              case round =>
                obtain ⟨i2, l, r2, rfl, rfl, hir2, hl3, hl4, hR⟩ := hrel
                have k4 : wr.cell? ⟨w.heap.size, 4, none⟩ = some (.slice a2 n2 c2) := by
                  rw [hR.out.1.cell (p := ⟨w.heap.size, 4, none⟩) (Nat.lt_succ_self _), cell_of_row _ w.heap.size 4 _ _ _ (heap_alloc_new w _)]
                  rfl
                by_cases hl0 : l < 0
                · have hl0' : ¬ (0 : Int) ≤ l := by omega
                  have HR : Hid (Below (w.heap.size + 1) (w.alloc (.cells #[.int .i64 op, .string nm, .int .i64 num, .slice a1 n1 c1, .slice a2 n2 c2, .slice a3 n3 c3] 35)) wr ∧ True) := Lib.hid ⟨hR.out.1, trivial⟩
                  clear hR
                  by_cases hii : (i2 : Int) < (n2 : Int)
                  · go_wp2_with fail
                    go_loopw [1, 9] (fun vl vi wr => vl = .int .i64 l ∧ vi = .int .i64 0 ∧ Hid (Below (w.heap.size + 1) (w.alloc (.cells #[.int .i64 op, .string nm, .int .i64 num, .slice a1 n1 c1, .slice a2 n2 c2, .slice a3 n3 c3] 35)) wr)) (fun _ _ _ => 1)
                    case atStart => exact ⟨rfl, rfl, Lib.hid HR.out.1⟩
                    case round =>
                      clear HR
                      obtain ⟨rfl, rfl, hR⟩ := hrel
                      have k5 : wr.cell? ⟨w.heap.size, 5, none⟩ = some (.slice a3 n3 c3) := by
                        rw [hR.out.cell (p := ⟨w.heap.size, 5, none⟩) (Nat.lt_succ_self _), cell_of_row _ w.heap.size 5 _ _ _ (heap_alloc_new w _)]
                        rfl
                      have HR := Lib.hid hR.out
                      clear hR
                      by_cases hz3 : (0 : Int) < (n3 : Int)
                      · go_wp2_with fail
                        go_ret
                        exact ⟨l, rfl, below_kept HR.out, hl3, hl4, fun h => by omega⟩
                      · go_wp2_with fail
                        go_ret
                        exact ⟨l, rfl, below_kept HR.out, hl3, hl4, fun h => by omega⟩
                  · go_wp2_with fail
                    go_loopw [1, 9] (fun vl vi wr => vl = .int .i64 l ∧ vi = .int .i64 0 ∧ Hid (Below (w.heap.size + 1) (w.alloc (.cells #[.int .i64 op, .string nm, .int .i64 num, .slice a1 n1 c1, .slice a2 n2 c2, .slice a3 n3 c3] 35)) wr)) (fun _ _ _ => 1)
                    case atStart => exact ⟨rfl, rfl, Lib.hid HR.out.1⟩
                    case round =>
                      clear HR
                      obtain ⟨rfl, rfl, hR⟩ := hrel
                      have k5 : wr.cell? ⟨w.heap.size, 5, none⟩ = some (.slice a3 n3 c3) := by
                        rw [hR.out.cell (p := ⟨w.heap.size, 5, none⟩) (Nat.lt_succ_self _), cell_of_row _ w.heap.size 5 _ _ _ (heap_alloc_new w _)]
                        rfl
                      have HR := Lib.hid hR.out
                      clear hR
                      by_cases hz3 : (0 : Int) < (n3 : Int)
                      · go_wp2_with fail
                        go_ret
                        exact ⟨l, rfl, below_kept HR.out, hl3, hl4, fun h => by omega⟩
                      · go_wp2_with fail
                        go_ret
                        exact ⟨l, rfl, below_kept HR.out, hl3, hl4, fun h => by omega⟩
                · have hl0' : (0 : Int) ≤ l := by omega
                  cases r2 with
                  | nil =>
                    simp only [Ex.len, Nat.add_zero] at hir2
                    have HR := Lib.hid hR.out
                    clear hR
                    have hii : ¬ (i2 : Int) < (n2 : Int) := by omega
                    go_wp2_with fail
                    go_loopw [1, 9] (fun vl vi wr => ∃ (i : Nat) (l : Int) (r : Ex), vl = .int .i64 l ∧ vi = .int .i64 (i : Int) ∧ i + r.len = n3 ∧ -1 ≤ l ∧ l ≤ 4294967296 ∧ Hid (Below (w.heap.size + 1) (w.alloc (.cells #[.int .i64 op, .string nm, .int .i64 num, .slice a1 n1 c1, .slice a2 n2 c2, .slice a3 n3 c3] 35)) wr ∧ (0 < r.len → ∃ b o, a3 = some ⟨b, o, none⟩ ∧ b < w.heap.size ∧ ExIn wr r b o i) ∧ r.wf false ∧ r.cost ≤ alts.cost ∧ (0 ≤ l → l + 1 + names.length + L.cost + alts.cost ≤ left + r.cost ∧ deep + L.tall ≤ 30 ∧ (deep + r.tall ≤ 30 → deep + alts.tall ≤ 30) ∧ L.brief ∧ (r.brief → alts.brief)))) (fun _ vi _ => n3 + 1 - (intOf vi).toNat)
                    case atStart => exact ⟨0, l, alts, rfl, rfl, by rw [Nat.zero_add]; exact HN3.out.symm, hl3, hl4, Lib.hid ⟨HR.out.1, fun h => by
                      obtain ⟨b, o, e1, e2, e3⟩ := HV3.out (by rw [HN3.out]; exact h)
                      exact ⟨b, o, e1, e2, ExIn.below (below_of_kept HR.out.1) e2 e3⟩, HW3.out, Nat.le_refl _, (fun h => by
                        obtain ⟨g1, g2, g3⟩ := HR.out.2.2.2.2 h
                        simp only [Ex.cost, Ex.tall, Ex.brief] at g1 g2 g3
                        exact ⟨by omega, g2 (by omega), id, g3 trivial, id⟩)⟩⟩
                    case round =>
                      clear HR hl3 hl4
                      obtain ⟨i3, l, r3, rfl, rfl, hir3, hl3, hl4, hR⟩ := hrel
                      have k5 : wr.cell? ⟨w.heap.size, 5, none⟩ = some (.slice a3 n3 c3) := by
                        rw [hR.out.1.cell (p := ⟨w.heap.size, 5, none⟩) (Nat.lt_succ_self _), cell_of_row _ w.heap.size 5 _ _ _ (heap_alloc_new w _)]
                        rfl
                      by_cases hl0 : l < 0
                      · have hl0' : ¬ (0 : Int) ≤ l := by omega
                        have HR := Lib.hid hR.out.1
                        clear hR
                        by_cases hii : (i3 : Int) < (n3 : Int)
                        · go_wp2_with fail
                          go_ret
                          exact ⟨l, rfl, below_kept HR.out, hl3, hl4, fun h => by omega⟩
                        · go_wp2_with fail
                          go_ret
                          exact ⟨l, rfl, below_kept HR.out, hl3, hl4, fun h => by omega⟩
                      · have hl0' : (0 : Int) ≤ l := by omega
                        cases r3 with
                        | nil =>
                          simp only [Ex.len, Nat.add_zero] at hir3
                          have HR := Lib.hid hR.out
                          clear hR
                          have hii : ¬ (i3 : Int) < (n3 : Int) := by omega
                          go_wp2_with fail
                          go_ret
                          refine ⟨l, rfl, below_kept HR.out.1, hl3, hl4, fun h => ?_⟩
                          obtain ⟨g1, g2, g3, g4, g5⟩ := HR.out.2.2.2.2 h
                          simp only [Ex.cost, Ex.tall, Ex.brief] at g1 g2 g3 g5
                          have := HN1.out
                          exact ⟨by omega, g2, g3 (by omega), by omega, HNM.out, g4, g5 trivial⟩
                        | expr => exact absurd hR.out.2.2.1.1 (by simp)
                        | alt take anm anum anames ae r3 =>
                          simp only [Ex.len] at hir3
                          obtain ⟨hb1, hin, hwf, hco, hfn⟩ := hR.out
                          obtain ⟨b, o, rfl, hbw, ht⟩ := hin (by simp only [Ex.len]; omega)
                          obtain ⟨av, a1', a2', a3', c3', c3s, ce, hrest⟩ := alIn_cells ht
                          obtain ⟨hwe, hle, hwr⟩ := al_wf hwf
                          obtain ⟨op', nm', num', names', L', alts', rfl⟩ := one_expr hwe hle
                          obtain ⟨hwl', hwa', -⟩ := ex_wf hwe
                          obtain ⟨hnm', d3, d4, d5, d0, d1, d2, f3, f4, f5, g3, g4, g5, -⟩ := exIn_cells ce
                          simp only [Nat.zero_mul, Nat.add_zero] at d0 d1 d2 f3 f4 f5
                          have HRR := Lib.hid hrest
                          have HF := Lib.hid hfn
                          have HB := Lib.hid hb1
                          have HCO := Lib.hid hco
                          have HWR := Lib.hid hwr
                          obtain ⟨han, aao, acap, rfl, -, -⟩ := c3s
                          obtain ⟨am, ham⟩ : ∃ am, am = anames.length := ⟨_, rfl⟩
                          rw [← ham] at han c3'
                          have HAM := Lib.hid ham
                          have HX := Lib.hid (show nm'.size ≤ reach ∧ _ ∧ _ ∧ _ ∧ _ ∧ _ from ⟨hnm', hwl', hwa', g3, g4, g5⟩)
                          have hii : (i3 : Int) < (n3 : Int) := by omega
                          have hi0 : (0 : Int) ≤ (i3 : Int) := by omega
                          have ham' : (am : Int) ≤ 140737488355328 := by have : am ≤ 140737488355328 := han; omega
                          clear hR hin hfn hb1 ht ce hrest hco hwr hwf hwe hle hwl' hwa' hnm' g3 g4 g5 ham han
                          have hszA : w.heap.size < wr.heap.size := kept_size HB.out
                          have hszB : b < wr.heap.size := Nat.lt_trans hbw hszA
                          have HC : Hid (∀ w', Below wr.heap.size wr w' → Calls Tryz.prog 13 #[.agg #[.int .i64 op', .string nm', .int .i64 num', d3, d4, d5], .int .i64 (l - 1 - (am : Int)), .int .i64 (deep + 1)] w' (fun e w'' => ∃ r : Int, e = .returned (.int .i64 r) ∧ Below w'.heap.size w' w'' ∧ -1 ≤ r ∧ r ≤ 4294967296 ∧ (0 ≤ r → r + 1 + names'.length + L'.cost + alts'.cost ≤ (l - 1 - (am : Int)) ∧ (deep + 1) + L'.tall ≤ 30 ∧ (deep + 1) + alts'.tall ≤ 30 ∧ nm'.size ≤ 60 ∧ txBrief names' ∧ L'.brief ∧ alts'.brief))) :=
                            Lib.hid fun w' hb => HI.out op' nm' num' names' L' alts' (by have := HM.out; have := HCO.out; simp only [Ex.cost] at this; omega) d3 d4 d5 (l - 1 - (am : Int)) (deep + 1) w' HX.out.1 HX.out.2.1 HX.out.2.2.1 (HX.out.2.2.2.1.mono hb.size fun _ _ p q => TxIn.below hb p q) (HX.out.2.2.2.2.1.mono hb.size fun _ _ p q => ExIn.below hb p q) (HX.out.2.2.2.2.2.mono hb.size fun _ _ p q => ExIn.below hb p q) (by omega) (by omega) (by omega) (by omega)
                          go_wp2_with fail
                          go_region_held3 (fun w' => w'.cell? ⟨w.heap.size, 5, none⟩ = some (.slice (some ⟨b, o, none⟩) n3 c3) ∧ w'.cell? ⟨b, o + i3 * 10 + 3, none⟩ = some (.slice aao am acap) ∧ w'.cell? ⟨b, o + i3 * 10 + 4, none⟩ = some (.int .i64 op') ∧ w'.cell? ⟨b, o + i3 * 10 + 4 + 1, none⟩ = some (.string nm') ∧ w'.cell? ⟨b, o + i3 * 10 + 4 + 2, none⟩ = some (.int .i64 num') ∧ w'.cell? ⟨b, o + i3 * 10 + 4 + 3, none⟩ = some d3 ∧ w'.cell? ⟨b, o + i3 * 10 + 4 + 4, none⟩ = some d4 ∧ w'.cell? ⟨b, o + i3 * 10 + 4 + 5, none⟩ = some d5) (first | go_keep | (refine ⟨?_, ?_, ?_, ?_, ?_, ?_, ?_, ?_⟩ <;> (first | (rw [HB2.out.cell (p := ⟨w.heap.size, 5, none⟩) hszA]; assumption) | (rw [HB2.out.cell (p := ⟨b, _, none⟩) hszB]; assumption)))) (first | (go_at_call 13; rw [wrap_i64 (n := l - 1) (by omega) (by omega), wrap_i64 (n := l - 1 - (am : Int)) (by omega) (by omega), wrap_i64 (n := deep + 1) (by omega) (by omega)]; refine (HC.out _ (Below.drew (Below.refl _ wr))).mono ?_; rintro e w2 ⟨q, rfl, hb2, hq1, hq2, hq3⟩; have HB2 : Hid (Below wr.heap.size wr w2) := Lib.hid ((Below.drew (Below.refl _ wr)).trans hb2); have HQ := Lib.hid hq3; clear hb2 hq3))
                          all_goals (
                            go_wp2_with fail
                            go_roundw
                            case rel =>
                              refine ⟨i3 + 1, q, r3, rfl, by go_num, by omega, hq1, hq2, Lib.hid ⟨HB.out.trans (HB2.out.mono (kept_size HB.out)), fun _ => ⟨b, o, rfl, hbw, ExIn.below HB2.out (by have := kept_size HB.out; omega) HRR.out⟩, HWR.out, ?_, fun hq0 => ?_⟩⟩
                              · have := HCO.out; simp only [Ex.cost] at this; omega
                              · obtain ⟨f1, f2, f3, f4, f5⟩ := HF.out hl0'
                                obtain ⟨q1, q2, q3, q4, q5, q6, q7⟩ := HQ.out hq0
                                have := HAM.out
                                simp only [Ex.cost, Ex.tall, Ex.brief] at f1 f2 f3 f5
                                exact ⟨by omega, f2, fun h => f3 (by omega), f4, fun h => f5 ⟨⟨q4, q5, q6, q7, trivial⟩, h⟩⟩
                            case measure => simp [intOf]; omega)
                  | alt => exact absurd hR.out.2.2.1.1 (by simp)
                  | expr op' nm' num' names' L' alts' r2 =>
                    simp only [Ex.len] at hir2
                    obtain ⟨hb1, hin, hwf, hco, hfn⟩ := hR.out
                    obtain ⟨b, o, rfl, hbw, ht⟩ := hin (by simp only [Ex.len]; omega)
                    obtain ⟨hwl', hwa', hwr⟩ := ex_wf hwf
                    obtain ⟨hnm', d3, d4, d5, d0, d1, d2, f3, f4, f5, g3, g4, g5, hrest⟩ := exIn_cells ht
                    have HRR := Lib.hid hrest
                    have HF := Lib.hid hfn
                    have HB := Lib.hid hb1
                    have HCO := Lib.hid hco
                    have HWR := Lib.hid hwr
                    have HC : Hid (Calls Tryz.prog 13 #[.agg #[.int .i64 op', .string nm', .int .i64 num', d3, d4, d5], .int .i64 l, .int .i64 (deep + 1)] wr (fun e w' => ∃ r : Int, e = .returned (.int .i64 r) ∧ Below wr.heap.size wr w' ∧ -1 ≤ r ∧ r ≤ 4294967296 ∧ (0 ≤ r → r + 1 + names'.length + L'.cost + alts'.cost ≤ l ∧ (deep + 1) + L'.tall ≤ 30 ∧ (deep + 1) + alts'.tall ≤ 30 ∧ nm'.size ≤ 60 ∧ txBrief names' ∧ L'.brief ∧ alts'.brief))) :=
                      Lib.hid (HI.out op' nm' num' names' L' alts' (by have := HM.out; simp only [Ex.cost] at hco; omega) d3 d4 d5 l (deep + 1) wr hnm' hwl' hwa' g3 g4 g5 (by omega) (by omega) (by omega) (by omega))
                    have hii : (i2 : Int) < (n2 : Int) := by omega
                    have hi0 : (0 : Int) ≤ (i2 : Int) := by omega
                    clear hR hin hfn hb1 ht hrest hco hwr hwf hwl' hwa' hnm' g3 g4 g5
                    go_wp2_with fail
                    refine HC.out.mono ?_
                    rintro e w2 ⟨q, rfl, hb2, hq1, hq2, hq3⟩
                    have HB2 := Lib.hid hb2
                    have HQ := Lib.hid hq3
                    clear hb2 hq3
                    go_wp2_with fail
                    go_roundw
                    case rel =>
                      refine ⟨i2 + 1, q, r2, rfl, by go_num, by omega, hq1, hq2, Lib.hid ⟨HB.out.trans (HB2.out.mono (kept_size HB.out)), fun _ => ⟨b, o, rfl, hbw, ExIn.below HB2.out (by have := kept_size HB.out; omega) HRR.out⟩, HWR.out, ?_, fun hq0 => ?_⟩⟩
                      · have := HCO.out; simp only [Ex.cost] at this; omega
                      · obtain ⟨f1, f2, f3⟩ := HF.out hl0'
                        obtain ⟨q1, q2, q3, q4, q5, q6, q7⟩ := HQ.out hq0
                        simp only [Ex.cost, Ex.tall, Ex.brief] at f1 f2 f3
                        exact ⟨by omega, fun h => f2 (by omega), fun h => f3 ⟨q4, q5, q6, q7, h⟩⟩
                    case measure => simp [intOf]; omega
end Go.Proofs.YtledjcplbldokaaGreatDoor
