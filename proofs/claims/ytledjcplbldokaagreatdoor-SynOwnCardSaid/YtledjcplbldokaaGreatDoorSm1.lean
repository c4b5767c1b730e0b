/- gristmillmake's counting of a type: it ends, and what it lets through is small. No conditions but the numbers' bounds. -/
import Derived.Test.YtledjcplbldokaaGreatDoorSm0
namespace Go.Proofs.YtledjcplbldokaaGreatDoor
open Go.ChangeShapes Go.WideShapes Go.ChangeAt Go.RowKit

/-- A type's cells in memory, as plain cell facts. -/
theorem tyIn_cells {w : World} {nm : ByteArray} {args r : Ty} {b o i : Nat} (h : TyIn w (.node nm args r) b o i) : nm.size ≤ reach ∧ ∃ v, w.cell? ⟨b, o + i * 2, none⟩ = some (.string nm) ∧ w.cell? ⟨b, o + i * 2 + 1, none⟩ = some v ∧ (SlAt w v args.len fun b o => TyIn w args b o 0) ∧ TyIn w r b o (i + 1) := by
  obtain ⟨⟨h1, h2, v, h3, h4⟩, h5⟩ := h
  exact ⟨h2, v, h1, h3, h4, h5⟩

theorem kept_size {w wr : World} {o : Obj} {B : Nat} (h : Below B (w.alloc o) wr) : w.heap.size + 1 ≤ wr.heap.size := by
  have := h.size
  simpa using this
set_option maxRecDepth 100000 in
set_option maxHeartbeats 4000000 in
theorem mktyp_any (m : Nat) : ∀ (nm : ByteArray) (args : Ty), 1 + args.cost ≤ m → ∀ (v : Value) (left deep : Int) (w : World), nm.size ≤ reach → (SlAt w v args.len fun b o => TyIn w args b o 0) → -1125899906842624 ≤ left → left ≤ 4294967296 → 0 ≤ deep → deep ≤ 31 →
    Calls Tryz.prog 12 #[.agg #[.string nm, v], .int .i64 left, .int .i64 deep] w fun e w' => ∃ r : Int, e = .returned (.int .i64 r) ∧ Below w.heap.size w w' ∧ -1 ≤ r ∧ r ≤ 4294967296 ∧ (0 ≤ r → r + 1 + args.cost ≤ left ∧ deep + args.tall ≤ 30 ∧ nm.size ≤ 60 ∧ args.brief) := by
  induction m with
  | zero => intro nm args h; omega
  | succ m IH =>
    intro nm args hm v left deep w hnm hv hl1 hl2 hd1 hd2
    have HI := Lib.hid IH
    have HM := Lib.hid hm
    obtain ⟨hlen, ao, cap, rfl, hc0, hsl⟩ := hv
    have HV := Lib.hid hsl
    have HL := Lib.hid hlen
    have hmx : args.len ≤ 140737488355328 := hlen
    have hnx : (nm.size : Int) ≤ 140737488355328 := by have : nm.size ≤ 140737488355328 := hnm; omega
    obtain ⟨n, hn⟩ : ∃ n, n = args.len := ⟨_, rfl⟩
    have HN := Lib.hid hn
    rw [← hn] at hmx HL HV ⊢
    clear IH hm hsl hlen hn hc0 hnm
    by_cases hdeep : (30 : Int) < deep
    · go_enter Tryz.func12, Tryz.ntmps12
      go_wp2_with fail
      go_ret
      exact ⟨-1, rfl, (Below.refl _ w).alloc (Nat.le_refl _) _, by omega, by omega, by omega⟩
    · by_cases hleft : left - 1 < 0
      · go_enter Tryz.func12, Tryz.ntmps12
        go_wp2_with fail
        go_ret
        exact ⟨-1, rfl, (Below.refl _ w).alloc (Nat.le_refl _) _, by omega, by omega, by omega⟩
      · by_cases hname : (60 : Int) < (nm.size : Int)
        · go_enter Tryz.func12, Tryz.ntmps12
          go_wp2_with fail
          go_ret
          exact ⟨-1, rfl, (Below.refl _ w).alloc (Nat.le_refl _) _, by omega, by omega, by omega⟩
        · have HB0 := Lib.hid ((Below.refl (w.heap.size + 1) (w.alloc (.cells #[.string nm, .slice ao n cap] 50))))
          go_enter Tryz.func12, Tryz.ntmps12
          go_wp2_with fail
          go_loopw [1, 7] (fun vl vi wr => ∃ (i : Nat) (l : Int) (r : Ty), vl = .int .i64 l ∧ vi = .int .i64 (i : Int) ∧ i + r.len = n ∧ -1 ≤ l ∧ l ≤ 4294967296 ∧ Hid (Below (w.heap.size + 1) (w.alloc (.cells #[.string nm, .slice ao n cap] 50)) wr ∧ (0 < r.len → ∃ b o, ao = some ⟨b, o, none⟩ ∧ b < w.heap.size ∧ TyIn wr r b o i) ∧ r.cost ≤ args.cost ∧ (0 ≤ l → l + 1 + args.cost ≤ left + r.cost ∧ (deep + r.tall ≤ 30 → deep + args.tall ≤ 30) ∧ (r.brief → args.brief)))) (fun _ vi _ => n + 1 - (intOf vi).toNat)
          case atStart => exact ⟨0, left - 1, args, rfl, rfl, by rw [Nat.zero_add]; exact HN.out.symm, by omega, by omega, Lib.hid ⟨HB0.out, fun h => by
            obtain ⟨b, o, e1, e2, e3⟩ := HV.out (by rw [HN.out]; exact h)
            exact ⟨b, o, e1, e2, TyIn.below (HB0.out.mono (Nat.le_succ _) |> fun h => (Below.refl _ w).alloc (Nat.le_refl _) _) e2 e3⟩, Nat.le_refl _, fun _ => ⟨by omega, id, id⟩⟩⟩
          case round =>
            obtain ⟨i, l, r, rfl, rfl, hir, hl3, hl4, hR⟩ := hrel
            have k1 : wr.cell? ⟨w.heap.size, 1, none⟩ = some (.slice ao n cap) := by
              rw [hR.out.1.cell (p := ⟨w.heap.size, 1, none⟩) (Nat.lt_succ_self _), cell_of_row _ w.heap.size 1 _ _ _ (heap_alloc_new w _)]
              rfl
            cases r with
            | nil =>
              simp only [Ty.len, Nat.add_zero] at hir
              have HR := Lib.hid hR.out
              clear hR
              subst hir
              have hii : ¬ (i : Int) < (i : Int) := by omega
              go_wp2_with fail
              go_ret
              refine ⟨l, rfl, (Below.refl _ w).alloc (Nat.le_refl _) _ |>.trans (HR.out.1.mono (Nat.le_succ _)), hl3, hl4, fun h => ?_⟩
              obtain ⟨g1, g2, g3⟩ := HR.out.2.2.2 h
              simp only [Ty.cost, Ty.tall, Ty.brief] at g1 g2 g3
              exact ⟨by omega, g2 (by omega), by omega, g3 trivial⟩
            | node nm' args' r =>
              simp only [Ty.len] at hir
              obtain ⟨hb1, hin, hco, hfn⟩ := hR.out
              obtain ⟨b, o, rfl, hbw, ht⟩ := hin (by simp only [Ty.len]; omega)
              obtain ⟨hnm', v', c0, c1, hsl', hrest⟩ := tyIn_cells ht
              have HR := Lib.hid hrest
              have HF := Lib.hid hfn
              have HB := Lib.hid hb1
              have HS := Lib.hid hsl'
              have HK := Lib.hid hnm'
              have HCO := Lib.hid hco
              have hii : (i : Int) < (n : Int) := by omega
              have hi0 : (0 : Int) ≤ (i : Int) := by omega
              clear hR hin hfn hb1 ht hsl' hrest hnm' hco
              by_cases hl : l < 0
              · have hl' : ¬ (0 : Int) ≤ l := by omega
                go_wp2_with fail
                go_ret
                exact ⟨l, rfl, (Below.refl _ w).alloc (Nat.le_refl _) _ |>.trans (HB.out.mono (Nat.le_succ _)), hl3, hl4, fun h => by omega⟩
              · have hl' : (0 : Int) ≤ l := by omega
                have HC : Hid (Calls Tryz.prog 12 #[.agg #[.string nm', v'], .int .i64 l, .int .i64 (deep + 1)] wr fun e w' => ∃ r : Int, e = .returned (.int .i64 r) ∧ Below wr.heap.size wr w' ∧ -1 ≤ r ∧ r ≤ 4294967296 ∧ (0 ≤ r → r + 1 + args'.cost ≤ l ∧ deep + 1 + args'.tall ≤ 30 ∧ nm'.size ≤ 60 ∧ args'.brief)) :=
                  Lib.hid (HI.out nm' args' (by have := HM.out; have := HCO.out; simp only [Ty.cost] at this; omega) v' l (deep + 1) wr HK.out HS.out (by omega) (by omega) (by omega) (by omega))
                go_wp2_with fail
                refine HC.out.mono ?_
                rintro e w2 ⟨q, rfl, hb2, hq1, hq2, hq3⟩
                have HB2 := Lib.hid hb2
                have HQ := Lib.hid hq3
                clear hb2 hq3
                go_wp2_with fail
                go_roundw
                case rel =>
                  refine ⟨i + 1, q, r, rfl, by go_num, by omega, hq1, hq2, Lib.hid ⟨HB.out.trans (HB2.out.mono (kept_size HB.out)), fun _ => ⟨b, o, rfl, hbw, TyIn.below HB2.out (by have := kept_size HB.out; omega) HR.out⟩, ?_, fun hq0 => ?_⟩⟩
                  · have := HCO.out; simp only [Ty.cost] at this; omega
                  · obtain ⟨f1, f2, f3⟩ := HF.out hl'
                    obtain ⟨q1, q2, q3, q4⟩ := HQ.out hq0
                    simp only [Ty.cost, Ty.tall, Ty.brief] at f1 f2 f3
                    exact ⟨by omega, fun h => f2 (by omega), fun h => f3 ⟨q3, q4, h⟩⟩
                case measure => simp [intOf]; omega
end Go.Proofs.YtledjcplbldokaaGreatDoor
