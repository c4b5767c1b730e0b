/- Tags: the document's own HasTag: its contract. Conditions: how many; how they lie in memory. -/
import Derived.Test.YtcplajplbocieaaDoorTr1
import Derived.Test.YtcplajplbocieaaDoorTg9
namespace Go.Proofs.YtcplajplbocieaaDoor
open Go.RowKit Go.Sort Go.Lib

theorem dec_mem (l : List Tg) (x : Tg) (h : ∀ j, j < l.length → eqT l[j]! x = false) : decide (x ∈ l) = false := by
  refine decide_eq_false fun hm => ?_
  obtain ⟨j, hj, e⟩ := List.getElem_of_mem hm
  have := h j hj
  rw [getElem!_pos l j hj, e, (eqT_iff x x).2 rfl] at this
  cases this
set_option maxRecDepth 100000 in
set_option maxHeartbeats 4000000 in
theorem hasTag_core (l : List Tg) (n cap : Nat) (hn : n = l.length) (hlen : n ≤ 100000) (x : Tg) (ao : Option Addr) (w : World) (h : TgAt w ao l) :
    Calls Tryd.prog 16 #[.slice ao n cap, .agg (encT x).toArray] w (Grew (.bool (decide (x ∈ l))) w) := by
  have HN := Lib.hid hn
  have HT := Lib.hid h
  obtain ⟨xk, xs, xn⟩ := x
  obtain ⟨D, hD⟩ : ∃ D, decide ((⟨xk, xs, xn⟩ : Tg) ∈ l) = D := ⟨_, rfl⟩
  rw [hD]
  have HD := Lib.hid hD
  simp only [encT]
  have HB0 := Lib.hid ((Below.refl _ w).alloc (Nat.le_refl _) (.cells #[.int .i64 xk, .string xs, .int .i64 xn] 23))
  have HBX := Lib.hid (show BoxT (w.alloc (.cells #[.int .i64 xk, .string xs, .int .i64 xn] 23)) w.heap.size ⟨xk, xs, xn⟩ from BoxT.of _ _ _ (t := 23) (fr := (0, 0)) (heap_alloc_new w _))
  have HSZ : Hid (w.heap.size < (w.alloc (.cells #[.int .i64 xk, .string xs, .int .i64 xn] 23)).heap.size) := Lib.hid (by simp)
  clear hn h hD
  go_enter Tryd.func16, Tryd.ntmps16
  go_wp2_with fail
  generalize (w.alloc (.cells #[.int .i64 xk, .string xs, .int .i64 xn] 23)) = w1 at *
  go_loopg [5] n (fun gg vi wr => ∃ i : Nat, i ≤ n ∧ n - i ≤ gg ∧ vi = .int .i64 i ∧ Hid (Below w1.heap.size w1 wr) ∧ Hid (∀ j, j < i → eqT l[j]! ⟨xk, xs, xn⟩ = false))
  case atStart => exact ⟨0, Nat.zero_le _, by omega, rfl, Lib.hid (Below.refl _ _), Lib.hid fun j hj => absurd hj (Nat.not_lt_zero _)⟩
  case round =>
    obtain ⟨i, hi, hgm, rfl, HR, HJ⟩ := hrel
    by_cases hlt : i < n
    · have hltz : (i : Int) < (n : Int) := by omega
      have hl : i < l.length := by rw [← HN.out]; exact hlt
      rcases HT.out with hnil | ⟨g, o, rfl, hgl, hcell⟩
      · rw [hnil] at hl; exact absurd hl (Nat.not_lt_zero _)
      obtain ⟨y, hy⟩ : ∃ y, l[i]! = y := ⟨_, rfl⟩
      have hce : ∀ j v, (encT y)[j]? = some v → ∀ s : Aft wr, s.at.cell? ⟨g, o + i * 3 + j, none⟩ = some v := fun j v hv s => by
        have hb := HB0.out.trans ((HR.out.trans (s.below.mono HR.out.size)).mono HB0.out.size)
        rw [hb.cell (p := ⟨g, _, none⟩) hgl]
        exact hcell i hl j v (by rw [hy]; exact hv)
      have hbx : ∀ s : Aft wr, BoxT s.at w.heap.size ⟨xk, xs, xn⟩ := fun s => HBX.out.below HSZ.out (HR.out.trans (s.below.mono HR.out.size))
      have b0 := fun s : Aft wr => (hbx s).1
      have b1 := fun s : Aft wr => (hbx s).2.1
      have b2 := fun s : Aft wr => (hbx s).2.2
      have HS := Lib.hid (sameTag_any y ⟨xk, xs, xn⟩)
      have HY := Lib.hid hy
      cases hq : eqT y ⟨xk, xs, xn⟩
      all_goals
        rw [hq] at HS
        have HQ := Lib.hid hq
        clear hcell hy hbx hq
        obtain ⟨yk, ys, yn⟩ := y
        have e0 := hce 0 _ rfl
        have e1 := hce 1 _ rfl
        have e2 := hce 2 _ rfl
        simp only [encT, Nat.add_zero] at e0 e1 e2 b0 b1 b2 HS
        clear hce
        go_wp2_with fail
        refine region_quiet_lit (C := fun w' => ∃ s : Aft wr, w' = s.at) (by kernel_rfl) (by kernel_rfl) ⟨⟨wr.drew, Below.drew (Below.refl _ _)⟩, rfl⟩ ?_
        repeat (go_big_quiet_step (with_reducible exact call_ok (HS.out _)))
        refine wpQuiet_nil ?_
        rintro w' ⟨s, rfl⟩
        clear e0 e1 e2 b0 b1 b2
        go_wp2_with fail
      · go_roundg (n - (i + 1))
        case measure => omega
        case rel => exact ⟨i + 1, by omega, Nat.le_refl _, by go_num, Lib.hid (HR.out.trans (s.below.mono HR.out.size)), Lib.hid fun j hj => by
          by_cases e : j = i
          · subst e; rw [HY.out]; exact HQ.out
          · exact HJ.out j (by omega)⟩
      · go_ret
        have hm : D = true := by
          rw [← HD.out]
          have := (eqT_iff _ _).1 HQ.out
          rw [← this, ← HY.out, getElem!_pos l i hl]
          exact decide_eq_true (List.getElem_mem hl)
        refine ⟨by rw [hm]; rfl, ?_⟩
        exact HB0.out.trans ((HR.out.trans (s.below.mono HR.out.size)).mono HB0.out.size)
    · have hltz : ¬ (i : Int) < (n : Int) := by omega
      go_wp2_with fail
      go_ret
      have hm : D = false := by
        rw [← HD.out]
        exact dec_mem l _ fun j hj => HJ.out j (by rw [← HN.out] at hj; omega)
      exact ⟨by rw [hm]; rfl, HB0.out.trans (HR.out.mono HB0.out.size)⟩
theorem hasTag_any (ao : Option Addr) (cap : Nat) (l : List Tg) (hl : l.length ≤ 100000) (x : Tg) (w : World) (h : TgAt w ao l) :
    Calls Tryd.prog 16 #[.slice ao l.length cap, .agg (encT x).toArray] w (Grew (.bool (decide (x ∈ l))) w) := hasTag_core l l.length cap rfl hl x ao w h
end Go.Proofs.YtcplajplbocieaaDoor
