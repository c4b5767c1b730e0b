/- The reader's end, and tree.Parse. Conditions: the errors' variables hold errors. -/
import Derived.Test.YtlblhlnpmdfblaaDoorRd7
namespace Go.Proofs.YtlblhlnpmdfblaaDoor
open Go.RowKit

set_option maxRecDepth 100000 in
set_option maxHeartbeats 4000000 in
theorem end_nil (B R : Nat) (lab : Nat → Nat) (vD vO : Value) (f0 : Fo) (w : World) (h : St w B R lab vD vO f0 []) :
    Calls Tryd.prog 17 #[.pointer (some ⟨R, 0, none⟩)] w fun e w' => e = .returned (.tuple #[vD, .nilIface]) ∧ w = w' := by
  have c0 := h.c0
  have c1 := h.c1
  obtain ⟨aO, capO, rfl⟩ := slice_of_owns h.opn
  obtain ⟨cs, d1, _⟩ := h.done
  obtain ⟨aD, capD, rfl⟩ := slice_of_owns d1
  clear h d1
  go_enter Tryd.func17, Tryd.ntmps17
  go_wp2_with fail
  go_ret2
  exact ⟨rfl, rfl⟩
set_option maxRecDepth 100000 in
set_option maxHeartbeats 4000000 in
theorem end_open (B R O capO : Nat) (lab : Nat → Nat) (vD v : Value) (f0 f : Fo) (os : Os) (p0 : Nat) (te : TypeId) (pe : Value) (w : World) (hk : os.length ≤ 200) (h : St w B R lab vD (.slice (some ⟨O, 0, none⟩) (os.length + 1) capO) f0 (os ++ [(v, f, p0)])) (he : w.cell? ⟨1, 0, none⟩ = some (.iface te pe)) :
    Calls Tryd.prog 17 #[.pointer (some ⟨R, 0, none⟩)] w fun e w' => ∃ tp p, e = .returned (.tuple #[.slice none 0 0, .iface tp p]) ∧ Below B w w' := by
  have c1 := h.c1
  obtain ⟨a0, a1, a2, _, _⟩ := st_last h
  have hBw : B ≤ w.heap.size := by have := h.ge; have := h.lt; omega
  have hkz : (0 : Int) ≤ (os.length : Int) := by omega
  have hk1 : (os.length : Int) < (os.length : Int) + 1 := by omega
  have hk2 : (0 : Int) < (os.length : Int) + 1 := by omega
  have hwr : IntKind.i64.wrap (os.length : Int) = (os.length : Int) := by rw [IntKind.wrap_i64]; omega
  clear h
  go_enter Tryd.func17, Tryd.ntmps17
  go_wp2_with fail
  go_region
  all_goals (
    go_wp2_with fail
    go_ret2
    exact ⟨_, _, rfl, by
      first
        | exact ((Below.refl B w).drew).alloc hBw _
        | exact ((Below.refl B w).alloc hBw _).drew
        | exact (Below.refl B w).alloc hBw _⟩)

theorem st_new (w : World) : St (w.alloc (.cells #[.slice none 0 0, .slice none 0 0] 46)) w.heap.size w.heap.size (fun _ => 1) (.slice none 0 0) (.slice none 0 0) .nil [] :=
  ⟨Nat.le_refl _, heap_alloc_new w _, rfl, Row.nil _ _ _ _, World.ownsRow_nil _ _ _ _, fun g hg => by simp [Value.ownBlock] at hg, fun i x hx => by simp at hx⟩

theorem ReadsAs.mk_no {r : Rd} (hr : r.fo = none) {w w' : World} {e : Ending} (h : ∃ ao cap tp p, e = .returned (.tuple #[.slice ao 0 cap, .iface tp p]) ∧ Below w.heap.size w w') : ReadsAs r w e w' := by
  cases r with
  | ok f => cases hr
  | deepAt p => exact h
  | openAt p => exact h
  | closeAt p => exact h
/-- What is known at the head of the loop. -/
def Lp (B R : Nat) (L : List (ByteArray × Nat)) (i : Nat) (w1 wr : World) : Prop :=
  ∃ lab vD vO f0 os, St wr B R lab vD vO f0 os ∧ Below B w1 wr ∧ Bnd i f0 os ∧ rdW (stOf [] f0 os).1 (stOf [] f0 os).2 (L.drop i) = rdW [] .nil L
theorem row_nodes {w : World} {B : Nat} {lab : Nat → Nat} {l : Nat} {v : Value} {f : Fo} (h : Row w B lab l v f) : ∃ ao cap, v = .slice ao f.len cap ∧ (ao = none → cap = 0) ∧ FoAt w f ao 0 := by
  obtain ⟨cs, h1, h2, _⟩ := h
  obtain ⟨ao, cap, e, h3⟩ := foAt_of_owns h1 h2.plain
  refine ⟨ao, cap, e, fun hn => ?_, h3⟩
  subst hn
  rcases h1.2 with ⟨q, _⟩ | ⟨g, c, cur, q, _⟩
  · rw [e] at q; injection q
  · rw [e] at q; injection q with q; cases q

set_option maxRecDepth 100000 in
set_option maxHeartbeats 4000000 in
theorem parse_any (s : ByteArray) (hs : s.size ≤ 65536) (te tc to : TypeId) (pe pc po : Value) (w : World)
    (he : w.cell? ⟨2, 0, none⟩ = some (.iface te pe)) (hc : w.cell? ⟨3, 0, none⟩ = some (.iface tc pc)) (ho : w.cell? ⟨1, 0, none⟩ = some (.iface to po)) :
    Calls Tryd.prog 8 #[.string s] w (ReadsAs (parseF s.data.toList) w) := by
  have HW := Lib.hid (words_any s hs w)
  unfold parseF
  obtain ⟨L, hL⟩ : ∃ L, L = words s.data.toList := ⟨_, rfl⟩
  have hlen : L.length ≤ 65536 := by rw [hL]; have := words_len s.data.toList; rw [← Lib.size_eq] at this; omega
  rw [← hL] at HW ⊢
  clear hL
  have HE := Lib.hid he
  have HCL := Lib.hid hc
  have HO := Lib.hid ho
  clear he hc ho
  go_enter Tryd.func8, Tryd.ntmps8
  go_wp2_with fail
  refine HW.out.mono ?_
  rintro e w1 ⟨ao, cap, rfl, hwd, hb1⟩
  have HWD := Lib.hid hwd
  have HB1 := Lib.hid hb1
  clear hwd hb1
  go_wp2_with fail
  obtain ⟨B, hB⟩ : ∃ B, B = w1.heap.size := ⟨_, rfl⟩
  have HBW := Lib.hid hB
  rw [← hB]
  clear hB
  go_loopw [20] (fun vi wr => ∃ i : Nat, vi = .int .i64 i ∧ i ≤ L.length ∧ Hid (Lp B B L i w1 wr)) (fun vi _ => L.length + 1 - (intOf vi).toNat)
  case atStart => exact ⟨0, rfl, Nat.zero_le _, Lib.hid ⟨_, _, _, _, [], by rw [HBW.out]; exact st_new w1, by rw [HBW.out]; exact (Below.refl _ w1).alloc (Nat.le_refl _) _, ⟨Nat.le_refl _, by simp, fun x hx => by simp at hx⟩, rfl⟩⟩
  case round =>
    obtain ⟨i, rfl, hi, hR⟩ := hrel
    by_cases hlt : i < L.length
    · obtain ⟨lab, vD, vO, f0, os, k1, k2, k3, k4⟩ := hR.out
      obtain ⟨b, rfl, _, hb2, hb3, hb4⟩ := (HWD.out.below (show Below w1.heap.size w1 wr by rw [← HBW.out]; exact k2)) i hlt
      obtain ⟨t, ht⟩ : ∃ t, t = L[i].1 := ⟨_, rfl⟩
      obtain ⟨p, hp⟩ : ∃ p, p = L[i].2 := ⟨_, rfl⟩
      rw [← ht] at hb3
      rw [← hp] at hb4
      have hdrop : L.drop i = (t, p) :: L.drop (i + 1) := by rw [List.drop_eq_getElem_cons hlt, ht, hp]
      rw [hdrop] at k4
      clear ht hp hdrop
      have hiz : (0 : Int) ≤ (i : Int) := by omega
      have hil : (i : Int) < (L.length : Int) := by omega
      have hwr : w.heap.size ≤ wr.heap.size := by have h1 := HB1.out.size; have h2 := k2.size; omega
      have hwb : Below w.heap.size w wr := HB1.out.trans (k2.mono (by rw [HBW.out]; exact HB1.out.size))
      have hBwr : B ≤ wr.heap.size := by have := k1.ge; have := k1.lt; omega
      have ge : ∀ (g : Nat) (x : Value), w.cell? ⟨g, 0, none⟩ = some x → wr.cell? ⟨g, 0, none⟩ = some x := fun g x hx => (hwb.cell (p := ⟨g, 0, none⟩) (World.block_lt_of_cell? w _ hx)).trans hx
      have hbo : ∀ o, Below wr.heap.size wr (wr.alloc o) := fun o => (Below.refl _ wr).alloc (Nat.le_refl _) o
      have ga : ∀ (o : Obj) (g : Nat) (x : Value), w.cell? ⟨g, 0, none⟩ = some x → (wr.alloc o).cell? ⟨g, 0, none⟩ = some x := fun o g x hx => ((hbo o).cell (p := ⟨g, 0, none⟩) (World.block_lt_of_cell? wr _ (ge g x hx))).trans (ge g x hx)
      have HT : Hid (∀ o, Calls Tryd.prog 16 #[.pointer (some ⟨B, 0, none⟩), wdV t p] (wr.alloc o) (TkP B B (i + 1) (rdS (stOf [] f0 os).1 (stOf [] f0 os).2 t p) (wr.alloc o))) := Lib.hid fun o =>
        take_any B B lab vD vO f0 os t p i te tc pe pc _ (by omega) k3 (k1.alloc o) (ga o _ _ HE.out) (ga o _ _ HCL.out)
      have HBo : Hid (∀ o, Below B w1 (wr.alloc o)) := Lib.hid fun o => k2.alloc hBwr o
      clear ge ga hbo k1 k3
      unfold wdV at HT
      cases hr : rdS (stOf [] f0 os).1 (stOf [] f0 os).2 t p with
      | none =>
        rw [hr] at HT
        have HF : Hid ((rdW [] .nil L).fo = none) := Lib.hid (by rw [← k4]; exact rdW_none hr _)
        clear hr k4
        go_wp2_with fail
        refine (HT.out _).mono ?_
        rintro e w' ⟨tp, q, rfl, hq⟩
        have HQ := Lib.hid ((HBo.out _).trans hq)
        clear hq
        go_wp2_with fail
        go_ret2
        exact ReadsAs.mk_no HF.out ⟨none, 0, tp, q, rfl, HB1.out.trans (HQ.out.mono (by rw [HBW.out]; exact HB1.out.size))⟩
      | some x =>
        obtain ⟨st', cur'⟩ := x
        rw [hr] at HT
        have HF : Hid (rdW st' cur' (L.drop (i + 1)) = rdW [] .nil L) := Lib.hid (by rw [← k4]; exact (rdW_some hr _).symm)
        clear hr k4
        go_wp2_with fail
        refine (HT.out _).mono ?_
        rintro e w' ⟨rfl, hq⟩
        have HQ := Lib.hid (hq.from (HBo.out _))
        clear hq
        go_wp2_with fail
        go_roundw
        case rel =>
          obtain ⟨lab2, vD2, vO2, f2, os2, m1, m2, m3, m4⟩ := HQ.out
          exact ⟨i + 1, by go_num, hlt, Lib.hid ⟨lab2, vD2, vO2, f2, os2, m1, m2, m3, by rw [m4]; exact HF.out⟩⟩
        case measure => simp [intOf]; omega
    · obtain ⟨lab, vD, vO, f0, os, k1, k2, k3, k4⟩ := hR.out
      rw [List.drop_of_length_le (by omega)] at k4
      have hil : ¬ (i : Int) < (L.length : Int) := by omega
      have hwb : Below w.heap.size w wr := HB1.out.trans (k2.mono (by rw [HBW.out]; exact HB1.out.size))
      rcases List.eq_nil_or_concat os with rfl | ⟨os0, x, rfl⟩
      · have HN := Lib.hid (end_nil B B lab vD vO f0 wr k1)
        obtain ⟨aD, cD, rfl, hz, hfo⟩ := row_nodes k1.done
        have HF := Lib.hid hfo
        have HZ := Lib.hid hz
        have HWB := Lib.hid hwb
        have HK : Hid (rdW [] .nil L = .ok f0) := Lib.hid (k4.symm.trans rfl)
        clear k1 k2 k3 k4 hfo hwb hz
        go_wp2_with fail
        refine HN.out.mono ?_
        rintro e w' ⟨rfl, rfl⟩
        go_wp2_with fail
        go_ret2
        rw [HK.out]
        exact ⟨aD, cD, rfl, HZ.out, HF.out, HWB.out⟩
      · obtain ⟨v, f, q⟩ := x
        have hcc : os0.concat (v, f, q) = os0 ++ [(v, f, q)] := by simp
        rw [hcc] at k1 k3 k4
        rw [stOf_snoc] at k4
        have hl : (os0 ++ [(v, f, q)]).length = os0.length + 1 := by rw [List.length_append]; rfl
        have hop := k1.opn
        rw [hl] at hop
        obtain ⟨O, capO, rfl⟩ := opn_some hop
        have hk := k3.2.1
        rw [hl] at hk
        have HN := Lib.hid (end_open B B O capO lab vD v f0 f os0 q to po wr (by omega) k1 ((hwb.cell (p := ⟨_, 0, none⟩) (World.block_lt_of_cell? w _ HO.out)).trans HO.out))
        have HWB := Lib.hid hwb
        have HK2 := Lib.hid k2
        have HK : Hid ((rdW [] .nil L).fo = none) := Lib.hid (by rw [← k4]; rfl)
        clear k1 k2 k3 k4 hwb hop
        go_wp2_with fail
        refine HN.out.mono ?_
        rintro e w' ⟨tp, q, rfl, hq⟩
        have HQ := Lib.hid (HK2.out.trans hq)
        clear hq
        go_wp2_with fail
        go_ret2
        exact ReadsAs.mk_no HK.out ⟨none, 0, tp, q, rfl, HB1.out.trans (HQ.out.mono (by rw [HBW.out]; exact HB1.out.size))⟩
end Go.Proofs.YtlblhlnpmdfblaaDoor
