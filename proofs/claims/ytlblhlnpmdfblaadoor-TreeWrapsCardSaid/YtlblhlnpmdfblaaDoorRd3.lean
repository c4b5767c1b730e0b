/- The reader's methods: what they do to the reader. No conditions. -/
import Derived.Test.YtlblhlnpmdfblaaDoorRd2
import Derived.Test.YtlblhlnpmdfblaaDoorLex2
import Derived.Deep.AppendLies
import Derived.Deep.RegionLaw
namespace Go.Proofs.YtlblhlnpmdfblaaDoor
open Go.RowKit

/-- A node as a value, and as a forest of one. -/
def ndV (t : ByteArray) (l : Value) (p : Nat) : Value := .agg #[.string t, l, .int .i64 (p : Int)]
def Bnd (n : Nat) (f0 : Fo) (os : Os) : Prop := f0.len ≤ n ∧ os.length ≤ 200 ∧ ∀ x ∈ os, x.2.1.len ≤ n


def zN : List Value := [.string ⟨#[]⟩, .slice none 0 0, .int .i64 0]
/-- What is known behind an append of an empty node, of its last cells. -/
theorem tail_facts {w : World} {base : Nat} {T : TypeId} {g n cap : Nat} {xs : List Value} (h : w.ownsRow base T 3 (.slice (some ⟨g, 0, none⟩) (n + 1) cap) (n + 1) (xs ++ zN)) (hx : xs.length = n * 3) :
    w.cell? ⟨g, n * 3, none⟩ = some (.string ⟨#[]⟩) ∧ w.cell? ⟨g, n * 3 + 1, none⟩ = some (.slice none 0 0) ∧ w.cell? ⟨g, n * 3 + 2, none⟩ = some (.int .i64 0) ∧ w.frozen? ⟨g, n * 3, none⟩ = false ∧ w.frozen? ⟨g, n * 3 + 1, none⟩ = false ∧ w.frozen? ⟨g, n * 3 + 2, none⟩ = false := by
  have key : ∀ j u, zN[j]? = some u → w.cell? ⟨g, n * 3 + j, none⟩ = some u := fun j u hj => by
    have h1 := h.cells (g := g) rfl (n * 3 + j) u (by rw [List.getElem?_append_right (by rw [hx]; omega), hx, Nat.add_sub_cancel_left]; exact hj)
    rwa [addr_add', Nat.zero_add] at h1
  exact ⟨key 0 _ rfl, key 1 _ rfl, key 2 _ rfl, h.frozenAt _, h.frozenAt _, h.frozenAt _⟩
/-- The empty node at a row's end, filled. -/
def fill3 (w : World) (g o : Nat) (a b c : Value) : World := ((w.setCell ⟨g, o, none⟩ a).setCell ⟨g, o + 1, none⟩ b).setCell ⟨g, o + 2, none⟩ c
theorem fill_owns {w : World} {base : Nat} {T : TypeId} {g n cap : Nat} {xs : List Value} (h : w.ownsRow base T 3 (.slice (some ⟨g, 0, none⟩) (n + 1) cap) (n + 1) (xs ++ zN)) (hx : xs.length = n * 3) (a b c : Value) :
    (fill3 w g (n * 3) a b c).ownsRow base T 3 (.slice (some ⟨g, 0, none⟩) (n + 1) cap) (n + 1) (xs ++ [a, b, c]) ∧ w.grownBy (fill3 w g (n * 3) a b c) (some g) := by
  obtain ⟨o1, g1⟩ := h.stored (n * 3) a
  obtain ⟨o2, g2⟩ := o1.stored (n * 3 + 1) b
  obtain ⟨o3, g3⟩ := o2.stored (n * 3 + 2) c
  refine ⟨?_, ?_⟩
  · have e : (((xs ++ zN).set (n * 3) a).set (n * 3 + 1) b).set (n * 3 + 2) c = xs ++ [a, b, c] := by
      rw [List.set_append_right _ _ (by omega), hx, Nat.sub_self, List.set_append_right _ _ (by omega), hx, Nat.add_sub_cancel_left, List.set_append_right _ _ (by omega), hx, Nat.add_sub_cancel_left]
      rfl
    rw [e] at o3
    exact o3
  · exact ⟨g3.os.trans (g2.os.trans g1.os), g3.tape.trans (g2.tape.trans g1.tape), g3.output.trans (g2.output.trans g1.output), Nat.le_trans g1.size (Nat.le_trans g2.size g3.size), fun k hk hne => by
      rw [fill3]
      exact (g3.block k (Nat.lt_of_lt_of_le hk (Nat.le_trans g1.size g2.size)) hne).trans ((g2.block k (Nat.lt_of_lt_of_le hk g1.size) hne).trans (g1.block k hk hne))⟩
/-- Stores into two blocks may change places. -/
theorem set_swap (w : World) (a b : Addr) (u v : Value) (h : a.block ≠ b.block) : (w.setCell a u).setCell b v = (w.setCell b v).setCell a u := by
  unfold World.setCell
  simp only [World.mk.injEq, and_true]
  apply Array.ext_getElem?
  intro i
  simp only [Array.getElem?_modify]
  by_cases h1 : a.block = i
  · have h2 : ¬ b.block = i := fun e => h (h1.trans e.symm)
    simp [h1, h2]
  · simp [h1]

theorem owns_fun {w : World} {base : Nat} {e : TypeId} {size : Nat} {v : Value} {n : Nat} {xs ys : List Value} (h : w.ownsRow base e size v n xs) (k : w.ownsRow base e size v n ys) : xs = ys := by
  rcases h.2 with ⟨rfl, rfl⟩ | ⟨g, c, cur, rfl, _, h1, _, _, _, h2⟩
  · have a := h.1
    have b := k.1
    simp only [Nat.zero_mul] at a b
    rw [List.eq_nil_of_length_eq_zero a, List.eq_nil_of_length_eq_zero b]
  · rcases k.2 with ⟨k1, _⟩ | ⟨g', c', cur', k1, _, k2, _, _, _, k3⟩
    · simp at k1
    · injection k1 with k1 _ _
      injection k1 with k1
      injection k1 with k1 _ _
      subst k1
      rw [h1] at k2
      injection k2 with k2
      injection k2 with k2 _ _
      subst k2
      rw [← h2, ← k3]
theorem Kept.below {w w' : World} (h : Below w.heap.size w w') (lab : Nat → Nat) (S : Nat → Prop) : Kept w w' lab lab S := ⟨h.size, fun b hb _ => ⟨h.block b hb, rfl⟩⟩
theorem fresh_of {w : World} {v : Value} {g n cap : Nat} (h : v.ownBlock = some g ∨ g = w.heap.size) : Fresh w v (.slice (some ⟨g, 0, none⟩) n cap) := by
  rcases h with h | h
  · left; rw [h]; rfl
  · right; exact ⟨g, rfl, Nat.le_of_eq h.symm⟩
theorem grown_fill {w0 w1 w2 : World} {v : Value} {g : Nat} (h1 : w0.grownBy w1 v.ownBlock) (h2 : w1.grownBy w2 (some g)) (hg : v.ownBlock = some g ∨ g = w0.heap.size) : w0.grownBy w2 v.ownBlock :=
  ⟨h2.os.trans h1.os, h2.tape.trans h1.tape, h2.output.trans h1.output, Nat.le_trans h1.size h2.size, fun k hk hne => by
    rw [h2.block k (Nat.lt_of_lt_of_le hk h1.size) (fun e => ?_), h1.block k hk hne]
    injection e with e
    rcases hg with q | q
    · rw [q] at hne; exact hne (by rw [e])
    · omega⟩
/-- Behind an append and the stores, in either order, to what stands in no bracket. -/
theorem done_fin {w w0 w1 : World} {B R g' cap : Nat} {lab : Nat → Nat} {vD vO : Value} {f0 g : Fo} {cs : List Value} {a b c : Value} (h : St w B R lab vD vO f0 []) (hb : Below w.heap.size w w0) (hg : FoCsL w lab g [a, b, c]) (hgl : g.len = 1) (hcs : w0.ownsRow B 39 3 vD f0.len cs)
    (ho : w1.ownsRow B 39 3 (.slice (some ⟨g', 0, none⟩) (f0.len + 1) cap) (f0.len + 1) (cs ++ zN)) (hgr : w0.grownBy w1 vD.ownBlock) (hat : vD.ownBlock = some g' ∨ g' = w0.heap.size) :
    ∃ lab' vD', St ((fill3 w1 g' (f0.len * 3) a b c).setCell ⟨R, 0, none⟩ (.slice (some ⟨g', 0, none⟩) (f0.len + 1) cap)) B R lab' vD' vO (f0.app g) [] ∧ Below B w ((fill3 w1 g' (f0.len * 3) a b c).setCell ⟨R, 0, none⟩ (.slice (some ⟨g', 0, none⟩) (f0.len + 1) cap)) := by
  have h0 := h.kept (Kept.below hb lab _)
  obtain ⟨f1, f2⟩ := fill_owns ho hcs.1 a b c
  have f3 := grown_fill hgr f2 hat
  obtain ⟨lab', k⟩ := st_done h0 f3 (fresh_of hat) (hg.kept (Kept.below hb lab _)) (fun cs' hcs' => by rw [owns_fun hcs' hcs, hgl]; exact f1)
  have hBw : B ≤ w.heap.size := Nat.le_trans h.ge (Nat.le_of_lt h.lt)
  refine ⟨lab', _, k, Below.setCell ((hb.mono hBw).trans (Below.grown (Below.refl B w0) f3 (Nat.le_trans hBw hb.size) (fun k hk => (hcs.lt k hk).1))) (p := ⟨R, 0, none⟩) h.ge _⟩
theorem fill_swap (w : World) (g o : Nat) (p : Addr) (a b c v : Value) (h : p.block ≠ g) : ((((w.setCell p v).setCell ⟨g, o, none⟩ a).setCell ⟨g, o + 1, none⟩ b).setCell ⟨g, o + 2, none⟩ c) = (fill3 w g o a b c).setCell p v := by
  unfold fill3
  rw [set_swap _ p ⟨g, o, none⟩ v a h, set_swap _ p ⟨g, o + 1, none⟩ v b h, set_swap _ p ⟨g, o + 2, none⟩ v c h]

set_option maxRecDepth 100000 in
set_option maxHeartbeats 4000000 in
theorem add_done (B R : Nat) (lab : Nat → Nat) (vD vO : Value) (f0 g : Fo) (t : ByteArray) (lo : Option Addr) (ln lc : Nat) (p n : Nat) (w : World) (hn : n ≤ 100000) (hb : Bnd n f0 []) (h : St w B R lab vD vO f0 []) (hg : FoCsL w lab g [.string t, .slice lo ln lc, .int .i64 (p : Int)]) (hgl : g.len = 1) :
    Calls Tryd.prog 30 #[.pointer (some ⟨R, 0, none⟩), ndV t (.slice lo ln lc) p] w fun e w' => e = .returned (.tuple #[]) ∧ ∃ lab' vD', St w' B R lab' vD' vO (f0.app g) [] ∧ Below B w w' := by
  obtain ⟨i0, hi, hz0, hz1, hz2⟩ := info_parts infoNode
  have c0 := h.c0
  have c1 := h.c1
  have z0 := h.fz 0
  obtain ⟨cs, d1, d2, d3⟩ := h.done
  obtain ⟨aD, capD, rfl⟩ := slice_of_owns d1
  obtain ⟨aO, capO, rfl⟩ := slice_of_owns h.opn
  have hbox := h.alloc (.cells #[.string t, .slice lo ln lc, .int .i64 (p : Int)] 39)
  have a1 := hbox.c1
  have a0 := hbox.c0
  have hRlt := h.lt
  have hD2 : (((w.alloc (.cells #[.string t, .slice lo ln lc, .int .i64 (p : Int)] 39)).alloc (.cells #[.string ⟨#[]⟩, .slice none 0 0, .int .i64 0] 39)).drew).ownsRow B 39 3 (.slice aD f0.len capD) f0.len cs := (d1.alloc _).alloc _
  have hfl : f0.len ≤ 100000 := Nat.le_trans hb.1 hn
  have hcs : cs.length = f0.len * 3 := d1.1
  have hlt1 : (f0.len : Int) < (f0.len : Int) + 1 := by omega
  have hBw : B ≤ w.heap.size + 2 := by have := h.ge; omega
  have HB : Hid (Below w.heap.size w (((w.alloc (.cells #[.string t, .slice lo ln lc, .int .i64 (p : Int)] 39)).alloc (.cells #[.string ⟨#[]⟩, .slice none 0 0, .int .i64 0] 39)).drew)) := Lib.hid ((((Below.refl _ w).alloc (Nat.le_refl _) _).alloc (by simp) _).drew)
  have HG := Lib.hid hg
  have HS := Lib.hid h
  have HL := Lib.hid hgl
  have HD := Lib.hid hD2
  have HC := Lib.hid hcs
  have HN : Hid (∀ j u, zN[j]? = some u → (((w.alloc (.cells #[.string t, .slice lo ln lc, .int .i64 (p : Int)] 39)).alloc (.cells #[.string ⟨#[]⟩, .slice none 0 0, .int .i64 0] 39)).drew).cell? ((⟨w.heap.size + 1, 0, none⟩ : Addr).add j) = some u) := Lib.hid (World.news_of_block (w := ((w.alloc (.cells #[.string t, .slice lo ln lc, .int .i64 (p : Int)] 39)).alloc (.cells #[.string ⟨#[]⟩, .slice none 0 0, .int .i64 0] 39)).drew) (fr := (0, 0)) (cs := #[.string ⟨#[]⟩, .slice none 0 0, .int .i64 0]) (t := 39) (by
    have := heap_alloc_new (w.alloc (.cells #[.string t, .slice lo ln lc, .int .i64 (p : Int)] 39)) (.cells #[.string ⟨#[]⟩, .slice none 0 0, .int .i64 0] 39)
    rw [show (w.alloc (.cells #[.string t, .slice lo ln lc, .int .i64 (p : Int)] 39)).heap.size = w.heap.size + 1 by simp] at this
    exact this))
  have HZ : Hid (∀ g cap w1, w1.ownsRow B 39 3 (.slice (some ⟨g, 0, none⟩) (f0.len + 1) cap) (f0.len + 1) (cs ++ zN) → (((w.alloc (.cells #[.string t, .slice lo ln lc, .int .i64 (p : Int)] 39)).alloc (.cells #[.string ⟨#[]⟩, .slice none 0 0, .int .i64 0] 39)).drew).grownBy w1 (Value.slice aD f0.len capD).ownBlock → ((Value.slice aD f0.len capD).ownBlock = some g ∨ g = w.heap.size + 2) →
      g ≠ R ∧ w1.frozen? ⟨R, 0, none⟩ = false ∧ w1.cell? ⟨R, 0, none⟩ = some (.slice aD f0.len capD)) := Lib.hid (fun g cap w1 ho hgr hat => by
    have hR : some R ≠ (Value.slice aD f0.len capD).ownBlock := fun e => by have := d3 R e.symm; have := h.lab1; omega
    have hb := hgr.block R (show R < (w.alloc _ |>.alloc _).heap.size by simp; omega) hR
    have hb' : w1.heap[R]? = w.heap[R]? := by
      rw [hb]
      show ((w.alloc _).alloc _).heap[R]? = _
      rw [Below.heap_alloc _ _ _ (by simp; omega), Below.heap_alloc _ _ _ hRlt]
    refine ⟨fun e => ?_, ?_, ?_⟩
    · rcases hat with q | q
      · rw [e] at q; exact hR q.symm
      · omega
    · rw [World.frozen?_of_block (a := ⟨R, 0, none⟩) hb']; exact h.fz 0
    · rw [World.cell?_of_block (a := ⟨R, 0, none⟩) hb']; exact h.c0)
  clear h hg d1 d2 d3 hgl hb hbox hD2 hcs
  unfold ndV
  go_enter Tryd.func30, Tryd.ntmps30
  go_wp2_with fail
  go_region_law ((refine step_append_lies _ (by rfl) (.tmp 28) (.tmp 31) 24 (by rfl) B 39 i0 (.agg #[.string ⟨#[]⟩, .slice none 0 0, .int .i64 0]) 3 48 Tryd.underlying24 hi hz0 hz1 hz2 rfl (by decide) (.slice aD f0.len capD) f0.len cs (by simp [Act.eval, Act.put]) HD.out ⟨w.heap.size + 1, 0, none⟩ 1 1 zN (by simp [Act.eval, Act.put]) rfl HN.out (by decide) (by decide) (by unfold maxLen; omega) (by omega) (by simp; omega) (w.heap.size + 2) (by simp) (fun g' cap w1 hown hgrow hat hlt => ?_); obtain ⟨n1, n2, n3⟩ := HZ.out g' cap w1 hown hgrow hat; obtain ⟨t1, t2, t3, t4, t5, t6⟩ := tail_facts hown HC.out; have n1' := n1.symm; have HO := Lib.hid hown; have HR := Lib.hid hgrow; have HA := Lib.hid hat; clear hown hgrow hat))
  all_goals (
    obtain ⟨lab', vD', k1, k2⟩ := done_fin HS.out HB.out HG.out HL.out HD.out HO.out HR.out (HA.out.imp (fun q => q) (fun q => q.trans (by simp)))
    first
      | rw [fill_swap _ _ _ _ _ _ _ _ n1']
      | skip
    go_end0
    exact ⟨rfl, lab', vD', k1, k2⟩)
end Go.Proofs.YtlblhlnpmdfblaaDoor
