/- The reader's add, to a list that is open. No conditions. -/
import Derived.Test.YtlblhlnpmdfblaaDoorRd3
namespace Go.Proofs.YtlblhlnpmdfblaaDoor
open Go.RowKit

/-- Behind an append and the stores, in either order, to the list that is open. -/
theorem open_fin {w w0 w1 : World} {B R O capO g' cap : Nat} {lab : Nat → Nat} {vD v : Value} {f0 f g : Fo} {os : Os} {p0 : Nat} {cs : List Value} {a b c : Value} (h : St w B R lab vD (.slice (some ⟨O, 0, none⟩) (os.length + 1) capO) f0 (os ++ [(v, f, p0)])) (hb : Below w.heap.size w w0) (hg : FoCsL w lab g [a, b, c]) (hgl : g.len = 1) (hcs : w0.ownsRow B 39 3 v f.len cs)
    (ho : w1.ownsRow B 39 3 (.slice (some ⟨g', 0, none⟩) (f.len + 1) cap) (f.len + 1) (cs ++ zN)) (hgr : w0.grownBy w1 v.ownBlock) (hat : v.ownBlock = some g' ∨ g' = w0.heap.size) :
    ∃ lab' v', St ((fill3 w1 g' (f.len * 3) a b c).setCell ⟨O, os.length * 3 + 1, none⟩ (.slice (some ⟨g', 0, none⟩) (f.len + 1) cap)) B R lab' vD (.slice (some ⟨O, 0, none⟩) (os.length + 1) capO) f0 (os ++ [(v', f.app g, p0)]) ∧ Below B w ((fill3 w1 g' (f.len * 3) a b c).setCell ⟨O, os.length * 3 + 1, none⟩ (.slice (some ⟨g', 0, none⟩) (f.len + 1) cap)) := by
  have h0 := h.kept (Kept.below hb lab _)
  obtain ⟨f1, f2⟩ := fill_owns ho hcs.1 a b c
  have f3 := grown_fill hgr f2 hat
  obtain ⟨lab', k⟩ := st_add h0 f3 (fresh_of hat) (hg.kept (Kept.below hb lab _)) (fun cs' hcs' => by rw [owns_fun hcs' hcs, hgl]; exact f1)
  have hBw : B ≤ w.heap.size := Nat.le_trans h.ge (Nat.le_of_lt h.lt)
  exact ⟨lab', _, k, Below.setCell ((hb.mono hBw).trans (Below.grown (Below.refl B w0) f3 (Nat.le_trans hBw hb.size) (fun k hk => (hcs.lt k hk).1))) (p := ⟨O, _, none⟩) (h.opn.lt O rfl).1 _⟩
set_option maxRecDepth 100000 in
set_option maxHeartbeats 4000000 in
theorem add_open (B R O capO : Nat) (lab : Nat → Nat) (vD v : Value) (f0 f g : Fo) (os : Os) (p0 : Nat) (t : ByteArray) (lo : Option Addr) (ln lc : Nat) (p n : Nat) (w : World) (hn : n ≤ 100000) (hb : f.len ≤ n) (hk : os.length ≤ 200) (h : St w B R lab vD (.slice (some ⟨O, 0, none⟩) (os.length + 1) capO) f0 (os ++ [(v, f, p0)])) (hg : FoCsL w lab g [.string t, .slice lo ln lc, .int .i64 (p : Int)]) (hgl : g.len = 1) :
    Calls Tryd.prog 30 #[.pointer (some ⟨R, 0, none⟩), ndV t (.slice lo ln lc) p] w fun e w' => e = .returned (.tuple #[]) ∧ ∃ lab' v', St w' B R lab' vD (.slice (some ⟨O, 0, none⟩) (os.length + 1) capO) f0 (os ++ [(v', f.app g, p0)]) ∧ Below B w w' := by
  obtain ⟨i0, hi, hz0, hz1, hz2⟩ := info_parts infoNode
  obtain ⟨cs, d1, d2, d3⟩ := h.rows os.length (v, f, p0) (by rw [List.getElem?_append_right (Nat.le_refl _)]; simp)
  simp only at d1 d2 d3
  obtain ⟨aD, capD, rfl⟩ := slice_of_owns d1
  have hbox := h.alloc (.cells #[.string t, .slice lo ln lc, .int .i64 (p : Int)] 39)
  have a1 := hbox.c1
  obtain ⟨a2, a3, _, a4, hBO⟩ := st_last hbox
  have hRlt := h.lt
  have hOlt := (h.opn.lt O rfl).2
  have hlO : lab O = 2 := h.opnL O rfl
  have hkz : (0 : Int) ≤ (os.length : Int) := by omega
  have hk1 : (os.length : Int) < (os.length : Int) + 1 := by omega
  have hwr : IntKind.i64.wrap (os.length : Int) = (os.length : Int) := by rw [IntKind.wrap_i64]; omega
  have hk2 : (0 : Int) < (os.length : Int) + 1 := by omega
  have hD2 : (((w.alloc (.cells #[.string t, .slice lo ln lc, .int .i64 (p : Int)] 39)).alloc (.cells #[.string ⟨#[]⟩, .slice none 0 0, .int .i64 0] 39)).drew.drew).ownsRow B 39 3 (.slice aD f.len capD) f.len cs := (d1.alloc _).alloc _
  have hfl : f.len ≤ 100000 := Nat.le_trans hb hn
  have hcs : cs.length = f.len * 3 := d1.1
  have hlt1 : (f.len : Int) < (f.len : Int) + 1 := by omega
  have hBw : B ≤ w.heap.size + 2 := by have := h.ge; omega
  have HB : Hid (Below w.heap.size w (((w.alloc (.cells #[.string t, .slice lo ln lc, .int .i64 (p : Int)] 39)).alloc (.cells #[.string ⟨#[]⟩, .slice none 0 0, .int .i64 0] 39)).drew.drew)) := Lib.hid ((((Below.refl _ w).alloc (Nat.le_refl _) _).alloc (by simp) _).drew.drew)
  have HG := Lib.hid hg
  have HS := Lib.hid h
  have HL := Lib.hid hgl
  have HD := Lib.hid hD2
  have HC := Lib.hid hcs
  have HN : Hid (∀ j u, zN[j]? = some u → (((w.alloc (.cells #[.string t, .slice lo ln lc, .int .i64 (p : Int)] 39)).alloc (.cells #[.string ⟨#[]⟩, .slice none 0 0, .int .i64 0] 39)).drew.drew).cell? ((⟨w.heap.size + 1, 0, none⟩ : Addr).add j) = some u) := Lib.hid (World.news_of_block (w := ((w.alloc (.cells #[.string t, .slice lo ln lc, .int .i64 (p : Int)] 39)).alloc (.cells #[.string ⟨#[]⟩, .slice none 0 0, .int .i64 0] 39)).drew.drew) (fr := (0, 0)) (cs := #[.string ⟨#[]⟩, .slice none 0 0, .int .i64 0]) (t := 39) (by
    have := heap_alloc_new (w.alloc (.cells #[.string t, .slice lo ln lc, .int .i64 (p : Int)] 39)) (.cells #[.string ⟨#[]⟩, .slice none 0 0, .int .i64 0] 39)
    rw [show (w.alloc (.cells #[.string t, .slice lo ln lc, .int .i64 (p : Int)] 39)).heap.size = w.heap.size + 1 by simp] at this
    exact this))
  have HZ : Hid (∀ g cap w1, w1.ownsRow B 39 3 (.slice (some ⟨g, 0, none⟩) (f.len + 1) cap) (f.len + 1) (cs ++ zN) → (((w.alloc (.cells #[.string t, .slice lo ln lc, .int .i64 (p : Int)] 39)).alloc (.cells #[.string ⟨#[]⟩, .slice none 0 0, .int .i64 0] 39)).drew.drew).grownBy w1 (Value.slice aD f.len capD).ownBlock → ((Value.slice aD f.len capD).ownBlock = some g ∨ g = w.heap.size + 2) →
      g ≠ O ∧ w1.frozen? ⟨O, os.length * 3 + 1, none⟩ = false ∧ w1.cell? ⟨O, os.length * 3 + 1, none⟩ = some (.slice aD f.len capD)) := Lib.hid (fun g cap w1 ho hgr hat => by
    have hR : some O ≠ (Value.slice aD f.len capD).ownBlock := fun e => by have := d3 O e.symm; omega
    have hb := hgr.block O (show O < (w.alloc _ |>.alloc _).heap.size by simp; omega) hR
    have hb' : w1.heap[O]? = w.heap[O]? := by
      rw [hb]
      show ((w.alloc _).alloc _).heap[O]? = _
      rw [Below.heap_alloc _ _ _ (by simp; omega), Below.heap_alloc _ _ _ hOlt]
    obtain ⟨_, e3, _, e4, _⟩ := st_last h
    refine ⟨fun e => ?_, ?_, ?_⟩
    · rcases hat with q | q
      · rw [e] at q; exact hR q.symm
      · omega
    · rw [World.frozen?_of_block (a := ⟨O, _, none⟩) hb']; exact e4
    · rw [World.cell?_of_block (a := ⟨O, _, none⟩) hb']; exact e3)
  clear h hg d1 d2 d3 hgl hb hbox hD2 hcs hlO
  unfold ndV
  go_enter Tryd.func30, Tryd.ntmps30
  go_wp2_with fail
  go_region
  go_wp2_with fail
  go_region_law ((refine step_append_lies _ (by rfl) (.tmp 28) (.tmp 31) 24 (by rfl) B 39 i0 (.agg #[.string ⟨#[]⟩, .slice none 0 0, .int .i64 0]) 3 48 Tryd.underlying24 hi hz0 hz1 hz2 rfl (by decide) (.slice aD f.len capD) f.len cs (by simp [Act.eval, Act.put]) HD.out ⟨w.heap.size + 1, 0, none⟩ 1 1 zN (by simp [Act.eval, Act.put]) rfl HN.out (by decide) (by decide) (by unfold maxLen; omega) (by omega) (by simp; omega) (w.heap.size + 2) (by simp) (fun g' cap w1 hown hgrow hat hlt => ?_); obtain ⟨n1, n2, n3⟩ := HZ.out g' cap w1 hown hgrow hat; obtain ⟨t1, t2, t3, t4, t5, t6⟩ := tail_facts hown HC.out; have n1' := n1.symm; have HO := Lib.hid hown; have HR := Lib.hid hgrow; have HA := Lib.hid hat; clear hown hgrow hat))
  all_goals (
    obtain ⟨lab', v', k1, k2⟩ := open_fin HS.out HB.out HG.out HL.out HD.out HO.out HR.out (HA.out.imp (fun q => q) (fun q => q.trans (by simp)))
    first
      | rw [fill_swap _ _ _ _ _ _ _ _ n1']
      | skip
    go_end0
    exact ⟨rfl, lab', v', k1, k2⟩)
end Go.Proofs.YtlblhlnpmdfblaaDoor
