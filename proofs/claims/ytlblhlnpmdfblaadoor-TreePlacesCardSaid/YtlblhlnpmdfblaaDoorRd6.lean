/- A list closed; what ends the reading. Conditions: the errors' variables hold something. -/
import Derived.Test.YtlblhlnpmdfblaaDoorRd5
namespace Go.Proofs.YtlblhlnpmdfblaaDoor
open Go.RowKit

theorem Next.from {B R n : Nat} {st : List (Fo × Nat)} {cur : Fo} {w w0 w' : World} (h : Next B R n st cur w0 w') (hb : Below B w w0) : Next B R n st cur w w' := by
  obtain ⟨lab, vD, vO, f0, os, k1, k2, k3, k4⟩ := h
  exact ⟨lab, vD, vO, f0, os, k1, hb.trans k2, k3, k4⟩
/-- Told as an error. -/
def Errs (B : Nat) (w : World) (e : Ending) (w' : World) : Prop := ∃ tp p, e = .returned (.iface tp p) ∧ Below B w w'
set_option maxRecDepth 100000 in
set_option maxHeartbeats 4000000 in
theorem open_err (B R : Nat) (lab : Nat → Nat) (vD vO : Value) (f0 : Fo) (os : Os) (p : Nat) (tx : TypeId) (px : Value) (w : World) (h : St w B R lab vD vO f0 os) (hk : os.length = 200) (hx : w.cell? ⟨2, 0, none⟩ = some (.iface tx px)) :
    Calls Tryd.prog 28 #[.pointer (some ⟨R, 0, none⟩), .int .i64 p] w (Errs B w) := by
  have c1 := h.c1
  obtain ⟨aO, capO, rfl⟩ := slice_of_owns h.opn
  have hBw : B ≤ w.heap.size := by have := h.ge; have := h.lt; omega
  rw [hk] at c1
  clear h
  go_enter Tryd.func28, Tryd.ntmps28
  go_wp2_with fail
  go_ret
  exact ⟨_, _, rfl, (Below.refl B w).alloc hBw _⟩

set_option maxRecDepth 100000 in
set_option maxHeartbeats 4000000 in
theorem close_err (B R : Nat) (lab : Nat → Nat) (vD vO : Value) (f0 : Fo) (p : Nat) (tx : TypeId) (px : Value) (w : World) (h : St w B R lab vD vO f0 []) (hx : w.cell? ⟨3, 0, none⟩ = some (.iface tx px)) :
    Calls Tryd.prog 29 #[.pointer (some ⟨R, 0, none⟩), .int .i64 p] w (Errs B w) := by
  have c1 := h.c1
  obtain ⟨aO, capO, rfl⟩ := slice_of_owns h.opn
  have hBw : B ≤ w.heap.size := by have := h.ge; have := h.lt; omega
  clear h
  go_enter Tryd.func29, Tryd.ntmps29
  go_wp2_with fail
  go_ret
  exact ⟨_, _, rfl, (Below.refl B w).alloc hBw _⟩

set_option maxRecDepth 100000 in
set_option maxHeartbeats 4000000 in
theorem close_ok (B R : Nat) (lab : Nat → Nat) (vD vO : Value) (f0 : Fo) (os : Os) (p n p0 : Nat) (st : List (Fo × Nat)) (prev cur : Fo) (w : World) (hn : n ≤ 100000) (hb : Bnd n f0 os) (h : St w B R lab vD vO f0 os) (hs : stOf [] f0 os = ((prev, p0) :: st, cur)) :
    Calls Tryd.prog 29 #[.pointer (some ⟨R, 0, none⟩), .int .i64 p] w fun e w' => e = .returned .nilIface ∧ Next B R (n + 1) st (prev.app (.list cur p0 .nil)) w w' := by
  rcases List.eq_nil_or_concat os with rfl | ⟨os0, x, rfl⟩
  · simp [stOf] at hs
  obtain ⟨v, f, q⟩ := x
  have hc : os0.concat (v, f, q) = os0 ++ [(v, f, q)] := by simp
  rw [hc] at hb h hs
  rw [stOf_snoc] at hs
  simp only [Prod.mk.injEq, List.cons.injEq] at hs
  obtain ⟨⟨⟨rfl, rfl⟩, rfl⟩, rfl⟩ := hs
  have hl : (os0 ++ [(v, f, q)]).length = os0.length + 1 := by rw [List.length_append]; rfl
  have ho := h.opn
  rw [hl] at ho
  obtain ⟨O, capO, rfl⟩ := opn_some ho
  have hk := hb.2.1
  rw [hl] at hk
  obtain ⟨c0, c1, c2, _, _⟩ := st_last h
  have cR := h.c1
  have zR := h.fz 1
  obtain ⟨lab', k1, k2⟩ := st_pop h
  have hb0 : Bnd n f0 os0 := ⟨hb.1, by omega, fun x hx => hb.2.2 x (List.mem_append_left _ hx)⟩
  obtain ⟨av, lv, cv, hv⟩ : ∃ av lv cv, v = .slice av lv cv := by
    obtain ⟨cs, d1, _⟩ := h.rows os0.length (v, f, q) (by rw [List.getElem?_append_right (Nat.le_refl _)]; simp)
    obtain ⟨a, c, e⟩ := slice_of_owns d1
    exact ⟨a, _, c, e⟩
  subst hv
  have hadd := add_any B R lab' vD _ f0 (.list f q .nil) os0 ⟨#[]⟩ av lv cv q n _ hn hb0 (k1.alloc (.cells #[.string ⟨#[]⟩, .slice av lv cv, .int .i64 (q : Int)] 39)) (k2.kept (Kept.alloc _ _ _ _)) rfl
  have hBR : Below B w ((w.setCell ⟨R, 1, none⟩ (.slice (some ⟨O, 0, none⟩) os0.length capO)).alloc (.cells #[.string ⟨#[]⟩, .slice av lv cv, .int .i64 (q : Int)] 39)) := ((Below.refl B w).setCell (p := ⟨R, 1, none⟩) h.ge _).alloc (by have := h.ge; have := h.lt; simp; omega) _
  have HA := Lib.hid hadd
  have HB := Lib.hid hBR
  have hwr : IntKind.i64.wrap (os0.length : Int) = (os0.length : Int) := by rw [IntKind.wrap_i64]; omega
  have hkz : (0 : Int) ≤ (os0.length : Int) := by omega
  have hk1 : (os0.length : Int) < (os0.length : Int) + 1 := by omega
  have hk3 : (os0.length : Int) ≤ (capO : Int) := by
    rcases ho.2 with ⟨e, _⟩ | ⟨_, _, _, e, _, _, e2, _⟩
    · cases e
    · injection e with _ _ e; omega
  have hne : ((os0.length : Int) + 1 == 0) = false := by simp; omega
  have hRlt := h.lt
  clear h hb hadd hBR k1 k2 ho hb0
  go_enter Tryd.func29, Tryd.ntmps29
  go_wp2_with fail
  refine HA.out.mono ?_
  rintro e w' ⟨rfl, hN⟩
  have HN := Lib.hid (hN.from HB.out)
  clear hN
  go_wp2_with fail
  apply bodyPost_ret
  case hr => exact results_tmp rfl _ _ _
  case hd => rfl
  case hR => exact ⟨rfl, HN.out⟩
end Go.Proofs.YtlblhlnpmdfblaaDoor
