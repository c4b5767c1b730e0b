/- The reader's add, of any state; a list opened. No conditions. -/
import Derived.Test.YtlblhlnpmdfblaaDoorRd4
namespace Go.Proofs.YtlblhlnpmdfblaaDoor
open Go.RowKit

/-- The state behind a step, as the plain reading has it. -/
def Next (B R : Nat) (n : Nat) (st : List (Fo × Nat)) (cur : Fo) (w w' : World) : Prop := ∃ lab vD vO f0 os, St w' B R lab vD vO f0 os ∧ Below B w w' ∧ Bnd n f0 os ∧ stOf [] f0 os = (st, cur)
theorem add_any (B R : Nat) (lab : Nat → Nat) (vD vO : Value) (f0 g : Fo) (os : Os) (t : ByteArray) (lo : Option Addr) (ln lc : Nat) (p n : Nat) (w : World) (hn : n ≤ 100000) (hb : Bnd n f0 os) (h : St w B R lab vD vO f0 os) (hg : FoCsL w lab g [.string t, .slice lo ln lc, .int .i64 (p : Int)]) (hgl : g.len = 1) :
    Calls Tryd.prog 30 #[.pointer (some ⟨R, 0, none⟩), ndV t (.slice lo ln lc) p] w fun e w' => e = .returned (.tuple #[]) ∧ Next B R (n + 1) (stOf [] f0 os).1 ((stOf [] f0 os).2.app g) w w' := by
  rcases List.eq_nil_or_concat os with rfl | ⟨os0, x, rfl⟩
  · refine (add_done B R lab vD vO f0 g t lo ln lc p n w hn hb h hg hgl).mono ?_
    rintro e w' ⟨rfl, lab', vD', k1, k2⟩
    refine ⟨rfl, lab', vD', vO, _, [], k1, k2, ⟨?_, by simp, fun x hx => by simp at hx⟩, rfl⟩
    rw [Fo.app_len, hgl]; exact Nat.succ_le_succ hb.1
  · obtain ⟨v, f, p0⟩ := x
    have hc : os0.concat (v, f, p0) = os0 ++ [(v, f, p0)] := by simp
    rw [hc] at hb h ⊢
    have hl : (os0 ++ [(v, f, p0)]).length = os0.length + 1 := by rw [List.length_append]; rfl
    have ho := h.opn
    rw [hl] at ho
    obtain ⟨O, capO, rfl⟩ := opn_some ho
    have hf := hb.2.2 (v, f, p0) (by simp)
    have hk := hb.2.1
    rw [hl] at hk
    refine (add_open B R O capO lab vD v f0 f g os0 p0 t lo ln lc p n w hn hf (by omega) h hg hgl).mono ?_
    rintro e w' ⟨rfl, lab', v', k1, k2⟩
    refine ⟨rfl, lab', vD, _, f0, _, k1, k2, ⟨Nat.le_succ_of_le hb.1, by rw [List.length_append]; exact hk, fun x hx => ?_⟩, ?_⟩
    · rcases List.mem_append.1 hx with hx | hx
      · exact Nat.le_succ_of_le (hb.2.2 x (List.mem_append_left _ hx))
      · simp only [List.mem_singleton] at hx
        subst hx
        show (f.app g).len ≤ n + 1
        rw [Fo.app_len, hgl]; exact Nat.succ_le_succ hf
    · rw [stOf_snoc, stOf_snoc]

theorem infoAt : (Tryd.prog.info? 68).map (fun i => (i.zero, i.size, i.bytes)) = some (some (.agg #[.int .i64 0, .nilIface]), 2, 24) := by kernel_rfl


/-- Behind an append and the stores, in either order, to the book of open lists. -/
theorem push_fin {w w0 w1 : World} {B R g' cap p n : Nat} {lab : Nat → Nat} {vD vO : Value} {f0 : Fo} {os : Os} (h : St w B R lab vD vO f0 os) (hb : Below w.heap.size w w0) (hn : Bnd n f0 os) (hk : os.length < 200)
    (ho : w1.ownsRow B 39 3 (.slice (some ⟨g', 0, none⟩) (os.length + 1) cap) (os.length + 1) (cellsO os ++ zN)) (hgr : w0.grownBy w1 vO.ownBlock) (hat : vO.ownBlock = some g' ∨ g' = w0.heap.size) :
    Next B R n (((stOf [] f0 os).2, p) :: (stOf [] f0 os).1) .nil w ((fill3 w1 g' (os.length * 3) (.string ⟨#[]⟩) (.slice none 0 0) (.int .i64 (p : Int))).setCell ⟨R, 1, none⟩ (.slice (some ⟨g', 0, none⟩) (os.length + 1) cap)) := by
  have h0 := h.kept (Kept.below hb lab _)
  obtain ⟨f1, f2⟩ := fill_owns ho (cellsO_len os) (.string ⟨#[]⟩) (.slice none 0 0) (.int .i64 (p : Int))
  have f3 := grown_fill hgr f2 hat
  obtain ⟨lab', k⟩ := st_push h0 f3 (fresh_of hat) f1
  have hBw : B ≤ w.heap.size := Nat.le_trans h.ge (Nat.le_of_lt h.lt)
  refine ⟨lab', _, _, _, _, k, Below.setCell ((hb.mono hBw).trans (Below.grown (Below.refl B w0) f3 (Nat.le_trans hBw hb.size) (fun k hk => (h0.opn.lt k hk).1))) (p := ⟨R, 1, none⟩) h.ge _, ⟨hn.1, by rw [List.length_append]; exact hk, fun x hx => ?_⟩, stOf_snoc _ _ _ _⟩
  rcases List.mem_append.1 hx with hx | hx
  · exact hn.2.2 x hx
  · simp only [List.mem_singleton] at hx
    subst hx
    exact Nat.zero_le _

set_option maxRecDepth 100000 in
set_option maxHeartbeats 4000000 in
theorem open_ok (B R : Nat) (lab : Nat → Nat) (vD vO : Value) (f0 : Fo) (os : Os) (p n : Nat) (w : World) (hb : Bnd n f0 os) (h : St w B R lab vD vO f0 os) (hk : os.length < 200) :
    Calls Tryd.prog 28 #[.pointer (some ⟨R, 0, none⟩), .int .i64 p] w fun e w' => e = .returned .nilIface ∧ Next B R n (((stOf [] f0 os).2, p) :: (stOf [] f0 os).1) .nil w w' := by
  obtain ⟨i0, hi, hz0, hz1, hz2⟩ := info_parts infoNode
  have c1 := h.c1
  have z1 := h.fz 1
  have hRlt := h.lt
  obtain ⟨aO, capO, rfl⟩ := slice_of_owns h.opn
  have hne : ((os.length : Int) == 200) = false := by simp; omega
  have hRB : R ≠ w.heap.size := by omega
  have hlt1 : (os.length : Int) < (os.length : Int) + 1 := by omega
  have hkz : (0 : Int) ≤ (os.length : Int) := by omega
  have hBw : B ≤ w.heap.size + 1 := by have := h.ge; omega
  have HK := Lib.hid hk
  have HBN := Lib.hid hb
  have HB : Hid (Below w.heap.size w ((w.alloc (.cells #[.string ⟨#[]⟩, .slice none 0 0, .int .i64 0] 39)).drew)) := Lib.hid (((Below.refl _ w).alloc (Nat.le_refl _) _).drew)
  have HS := Lib.hid h
  have HD : Hid (((w.alloc (.cells #[.string ⟨#[]⟩, .slice none 0 0, .int .i64 0] 39)).drew).ownsRow B 39 3 (.slice aO os.length capO) os.length (cellsO os)) := Lib.hid (h.opn.alloc _)
  have HN : Hid (∀ j u, zN[j]? = some u → ((w.alloc (.cells #[.string ⟨#[]⟩, .slice none 0 0, .int .i64 0] 39)).drew).cell? ((⟨w.heap.size, 0, none⟩ : Addr).add j) = some u) := Lib.hid (World.news_of_block (w := (w.alloc (.cells #[.string ⟨#[]⟩, .slice none 0 0, .int .i64 0] 39)).drew) (fr := (0, 0)) (cs := #[.string ⟨#[]⟩, .slice none 0 0, .int .i64 0]) (t := 39) (heap_alloc_new w (.cells #[.string ⟨#[]⟩, .slice none 0 0, .int .i64 0] 39)))
  have HZ : Hid (∀ g cap w1, w1.ownsRow B 39 3 (.slice (some ⟨g, 0, none⟩) (os.length + 1) cap) (os.length + 1) (cellsO os ++ zN) → ((w.alloc (.cells #[.string ⟨#[]⟩, .slice none 0 0, .int .i64 0] 39)).drew).grownBy w1 (Value.slice aO os.length capO).ownBlock → ((Value.slice aO os.length capO).ownBlock = some g ∨ g = w.heap.size + 1) →
      g ≠ R ∧ w1.frozen? ⟨R, 1, none⟩ = false ∧ w1.cell? ⟨R, 1, none⟩ = some (.slice aO os.length capO)) := Lib.hid (fun g cap w1 ho hgr hat => by
    have hR : some R ≠ (Value.slice aO os.length capO).ownBlock := fun e => by have := h.opnL R e.symm; have := h.lab1; omega
    have hb := hgr.block R (show R < (w.alloc _).heap.size by simp; omega) hR
    have hb' : w1.heap[R]? = w.heap[R]? := by
      rw [hb]
      exact Below.heap_alloc _ _ _ hRlt
    refine ⟨fun e => ?_, ?_, ?_⟩
    · rcases hat with q | q
      · rw [e] at q; exact hR q.symm
      · omega
    · rw [World.frozen?_of_block (a := ⟨R, 1, none⟩) hb']; exact h.fz 1
    · rw [World.cell?_of_block (a := ⟨R, 1, none⟩) hb']; exact h.c1)
  clear h hb
  go_enter Tryd.func28, Tryd.ntmps28
  go_wp2_with fail
  go_region_law ((refine step_append_lies _ (by rfl) (.tmp 19) (.tmp 23) 24 (by rfl) B 39 i0 (.agg #[.string ⟨#[]⟩, .slice none 0 0, .int .i64 0]) 3 48 Tryd.underlying24 hi hz0 hz1 hz2 rfl (by decide) (.slice aO os.length capO) os.length (cellsO os) (by simp [Act.eval, Act.put]) HD.out ⟨w.heap.size, 0, none⟩ 1 1 zN (by simp [Act.eval, Act.put]) rfl HN.out (by decide) (by decide) (by unfold maxLen; omega) (by omega) (by simp; omega) (w.heap.size + 1) (by simp) (fun g' cap w1 hown hgrow hat hlt => ?_); obtain ⟨n1, n2, n3⟩ := HZ.out g' cap w1 hown hgrow hat; obtain ⟨t1, t2, t3, t4, t5, t6⟩ := tail_facts hown (cellsO_len os); have n1' := n1.symm; have HO := Lib.hid hown; have HR := Lib.hid hgrow; have HA := Lib.hid hat; clear hown hgrow hat))
  all_goals (
    have k1 := push_fin (p := p) HS.out HB.out HBN.out HK.out HO.out HR.out (HA.out.imp (fun q => q) (fun q => q.trans (by simp)))
    first
      | rw [fill_swap _ _ _ _ _ _ _ _ n1']
      | skip
    go_wp2_with fail
    go_ret
    exact ⟨rfl, k1⟩)
end Go.Proofs.YtlblhlnpmdfblaaDoor
