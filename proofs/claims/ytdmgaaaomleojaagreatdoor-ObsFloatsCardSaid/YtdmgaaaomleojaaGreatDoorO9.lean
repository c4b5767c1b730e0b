/- Package obs, what reads a text of one word: add, whole, take, read, Parse. Conditions: as each says. -/
import Derived.Test.YtdmgaaaomleojaaGreatDoorO8
import Derived.Deep.AppendLies
import Derived.Deep.RegionLaw
namespace Go.Proofs.YtdmgaaaomleojaaGreatDoor
open Go.RowKit

theorem infoObs : (Tryz.prog.info? 27).map (fun i => (i.zero, i.size, i.bytes)) = some (some (.agg #[.int .i64 0, .int .i64 0, .string ⟨#[]⟩, .slice none 0 0]), 4, 56) := by kernel_rfl
def zO : List Value := [.int .i64 0, .int .i64 0, .string ⟨#[]⟩, .slice none 0 0]

/-- Stores into two blocks may change places. -/
theorem set_swap (w : World) (a b : Addr) (u v : Value) (h : a.block ≠ b.block) : (w.setCell a u).setCell b v = (w.setCell b v).setCell a u := by
  unfold World.setCell
  simp only [World.mk.injEq, and_true]
  apply Array.ext_getElem?
  intro i
  simp only [Array.getElem?_modify]
  by_cases h1 : a.block = i
  · have h2 : ¬ b.block = i := fun e => h (h1.trans e.symm)
    simp [h1, h2]
  · simp [h1]
def fill4 (w : World) (g : Nat) (a b c d : Value) : World := (((w.setCell ⟨g, 0, none⟩ a).setCell ⟨g, 1, none⟩ b).setCell ⟨g, 2, none⟩ c).setCell ⟨g, 3, none⟩ d
theorem fill_swap (w : World) (g : Nat) (p : Addr) (a b c d v : Value) (h : p.block ≠ g) : (((((w.setCell p v).setCell ⟨g, 0, none⟩ a).setCell ⟨g, 1, none⟩ b).setCell ⟨g, 2, none⟩ c).setCell ⟨g, 3, none⟩ d) = (fill4 w g a b c d).setCell p v := by
  unfold fill4
  rw [set_swap _ p ⟨g, 0, none⟩ v a h, set_swap _ p ⟨g, 1, none⟩ v b h, set_swap _ p ⟨g, 2, none⟩ v c h, set_swap _ p ⟨g, 3, none⟩ v d h]
/-- what stands behind add: the reader, what it has, the new part -/
structure Added (k n : Int) (rb ob B : Nat) (w w' : World) : Prop where
  below : Below B w w'
  reader : w'.heap[rb]? = w.heap[rb]?
  part : ∃ g c, w'.cell? ⟨ob, 3, none⟩ = some (.slice (some ⟨g, 0, none⟩) 1 c) ∧ w'.cell? ⟨g, 0, none⟩ = some (.int .i64 k) ∧ w'.cell? ⟨g, 1, none⟩ = some (.int .i64 n) ∧ w'.cell? ⟨g, 2, none⟩ = some (.string ⟨#[]⟩) ∧ w'.cell? ⟨g, 3, none⟩ = some (.slice none 0 0)
theorem add_fin {w w0 w1 : World} {B rb ob g cap : Nat} {k n : Int} {cs : Array Value} {T : TypeId} {f : Nat × Nat} (hb : Below w.heap.size w w0) (hrlt : rb < w.heap.size) (holt : ob < w.heap.size) (hB2 : B ≤ ob) (hne : rb ≠ ob) (hgr : w0.grownBy w1 none) (hg : g = w0.heap.size)
    (hrow : w1.heap[g]? = some (.cells cs T f)) (hcs : 4 ≤ cs.size) (ho : (w1.cell? ⟨ob, 3, none⟩).isSome = true) :
    Added k n rb ob B w ((fill4 w1 g (.int .i64 k) (.int .i64 n) (.string ⟨#[]⟩) (.slice none 0 0)).setCell ⟨ob, 3, none⟩ (.slice (some ⟨g, 0, none⟩) 1 cap)) := by
  have hsz := hb.size
  have hgo : g ≠ ob := by omega
  have hgr' : g ≠ rb := by omega
  have h1 : Below w.heap.size w w1 := hb.trans ((Below.grown (Below.refl w0.heap.size w0) hgr (Nat.le_refl _) (fun k hk => by cases hk)).mono hsz)
  have hBg : w.heap.size ≤ g := by omega
  have h2 : Below w.heap.size w (fill4 w1 g (.int .i64 k) (.int .i64 n) (.string ⟨#[]⟩) (.slice none 0 0)) := (((h1.setCell (p := ⟨g, 0, none⟩) hBg _).setCell (p := ⟨g, 1, none⟩) hBg _).setCell (p := ⟨g, 2, none⟩) hBg _).setCell (p := ⟨g, 3, none⟩) hBg _
  have hf : (fill4 w1 g (.int .i64 k) (.int .i64 n) (.string ⟨#[]⟩) (.slice none 0 0)).heap[g]? = some (.cells ((((cs.setIfInBounds 0 (.int .i64 k)).setIfInBounds 1 (.int .i64 n)).setIfInBounds 2 (.string ⟨#[]⟩)).setIfInBounds 3 (.slice none 0 0)) T f) := row_set _ (row_set _ (row_set _ (row_set _ hrow)))
  have hf' : ((fill4 w1 g (.int .i64 k) (.int .i64 n) (.string ⟨#[]⟩) (.slice none 0 0)).setCell ⟨ob, 3, none⟩ (.slice (some ⟨g, 0, none⟩) 1 cap)).heap[g]? = some (.cells ((((cs.setIfInBounds 0 (.int .i64 k)).setIfInBounds 1 (.int .i64 n)).setIfInBounds 2 (.string ⟨#[]⟩)).setIfInBounds 3 (.slice none 0 0)) T f) := by
    rw [Below.heap_setCell _ _ _ _ hgo]; exact hf
  refine ⟨(h2.mono (show B ≤ w.heap.size by omega)).setCell (p := ⟨ob, 3, none⟩) hB2 _, ?_, g, cap, World.cell?_setCell_same' _ _ _ ?_, ?_, ?_, ?_, ?_⟩
  · rw [Below.heap_setCell _ _ _ _ hne]
    exact h2.block rb hrlt
  · rw [show (fill4 w1 g (.int .i64 k) (.int .i64 n) (.string ⟨#[]⟩) (.slice none 0 0)).cell? ⟨ob, 3, none⟩ = w1.cell? ⟨ob, 3, none⟩ from ?_]
    · exact ho
    · rw [h2.cell (p := ⟨ob, 3, none⟩) holt, h1.cell (p := ⟨ob, 3, none⟩) holt]
  all_goals
    refine (cell_of_row _ g _ _ _ _ hf').trans ?_
    clear hf' hf h2 h1 ho hgr hrow
    obtain ⟨l⟩ := cs
    match l, hcs with
    | x :: y :: z :: u :: r, _ => simp

set_option maxRecDepth 100000 in
set_option maxHeartbeats 4000000 in
theorem add_first (k n : Int) (rb ob c1 B : Nat) (w : World) (hB1 : B ≤ rb) (hB2 : B ≤ ob) (hne : rb ≠ ob) (hr : w.heap[rb]? = some (.cells #[.slice (some ⟨ob, 0, none⟩) 1 c1] 47 (0, 0)))
    (ho : w.heap[ob]? = some (.cells #[.int .i64 0, .int .i64 0, .string ⟨#[]⟩, .slice none 0 0] 27 (0, 0))) :
    Calls Tryz.prog 33 #[.pointer (some ⟨rb, 0, none⟩), leafV k n] w fun e w' => e = .returned (.tuple #[]) ∧ Added k n rb ob B w w' := by
  obtain ⟨i0, hi, hz0, hz1, hz2⟩ := info_parts infoObs
  have hrlt : rb < w.heap.size := by
    rcases Nat.lt_or_ge rb w.heap.size with h | h
    · exact h
    · rw [Array.getElem?_eq_none h] at hr; simp at hr
  have holt : ob < w.heap.size := by
    rcases Nat.lt_or_ge ob w.heap.size with h | h
    · exact h
    · rw [Array.getElem?_eq_none h] at ho; simp at ho
  have cr : ∀ o, (w.alloc o).cell? ⟨rb, 0, none⟩ = some (.slice (some ⟨ob, 0, none⟩) 1 c1) := fun o => by
    rw [World.cell?_alloc_past _ _ _ hrlt]; simp [World.cell?, hr]
  have co : ∀ o, (w.alloc o).cell? ⟨ob, 3, none⟩ = some (.slice none 0 0) := fun o => by
    rw [World.cell?_alloc_past _ _ _ holt]; simp [World.cell?, ho]
  unfold leafV
  go_enter Tryz.func33, Tryz.ntmps33
  go_wp2_with fail
  go_region
  all_goals go_wp2_with fail
  obtain ⟨W0, hW0⟩ : ∃ W0, W0 = (w.alloc (.cells #[.int .i64 k, .int .i64 n, .string ⟨#[]⟩, .slice none 0 0] 27)).drew := ⟨_, rfl⟩
  have hb0 : Below w.heap.size w W0 := by rw [hW0]; exact ((Below.refl _ _).alloc (Nat.le_refl _) _).drew
  have hz0' : W0.heap.size = w.heap.size + 1 := by rw [hW0]; exact (by simp : (w.alloc _).heap.size = w.heap.size + 1)
  have hx : ∀ i, W0.cell? ⟨w.heap.size, i, none⟩ = (#[Value.int .i64 k, .int .i64 n, .string ⟨#[]⟩, .slice none 0 0] : Array Value)[i]? := fun i => by rw [hW0]; exact World.cell?_alloc_at _ _ _ _ rfl
  have x0 := hx 0
  have x1 := hx 1
  have x2 := hx 2
  have x3 := hx 3
  simp only [List.getElem?_toArray, List.getElem?_cons_zero, List.getElem?_cons_succ] at x0 x1 x2 x3
  rw [← hW0]
  clear hW0 hx cr co
  have co : W0.cell? ⟨ob, 3, none⟩ = some (.slice none 0 0) := by rw [hb0.cell (p := ⟨ob, 3, none⟩) holt]; simp [World.cell?, ho]
  have HD : Hid (((W0.alloc (.cells #[.int .i64 0, .int .i64 0, .string ⟨#[]⟩, .slice none 0 0] 27)).drew).ownsRow B 27 4 (.slice none 0 0) 0 []) := Lib.hid (World.ownsRow_nil _ _ _ _)
  have HN : Hid (∀ j u, zO[j]? = some u → ((W0.alloc (.cells #[.int .i64 0, .int .i64 0, .string ⟨#[]⟩, .slice none 0 0] 27)).drew).cell? ((⟨W0.heap.size, 0, none⟩ : Addr).add j) = some u) := Lib.hid (World.news_of_block (w := (W0.alloc (.cells #[.int .i64 0, .int .i64 0, .string ⟨#[]⟩, .slice none 0 0] 27)).drew) (heap_alloc_new W0 _))
  have HZ : Hid (∀ g cap w1, w1.ownsRow B 27 4 (.slice (some ⟨g, 0, none⟩) (0 + 1) cap) (0 + 1) ([] ++ zO) → ((W0.alloc (.cells #[.int .i64 0, .int .i64 0, .string ⟨#[]⟩, .slice none 0 0] 27)).drew).grownBy w1 (Value.slice none 0 0).ownBlock → ((Value.slice none 0 0).ownBlock = some g ∨ g = W0.heap.size + 1) →
      g ≠ ob ∧ w1.cell? ⟨ob, 3, none⟩ = some (.slice none 0 0) ∧ w1.frozen? ⟨ob, 3, none⟩ = false ∧ w1.cell? ⟨g, 0, none⟩ = some (.int .i64 0) ∧ w1.cell? ⟨g, 1, none⟩ = some (.int .i64 0) ∧ w1.cell? ⟨g, 2, none⟩ = some (.string ⟨#[]⟩) ∧ w1.cell? ⟨g, 3, none⟩ = some (.slice none 0 0) ∧
      w1.frozen? ⟨g, 0, none⟩ = false ∧ w1.frozen? ⟨g, 1, none⟩ = false ∧ w1.frozen? ⟨g, 2, none⟩ = false ∧ w1.frozen? ⟨g, 3, none⟩ = false ∧
      Added k n rb ob B w ((fill4 w1 g (.int .i64 k) (.int .i64 n) (.string ⟨#[]⟩) (.slice none 0 0)).setCell ⟨ob, 3, none⟩ (.slice (some ⟨g, 0, none⟩) 1 cap))) := Lib.hid (fun g cap w1 hown hgr hat => by
    have hg : g = W0.heap.size + 1 := by
      rcases hat with q | q
      · cases q
      · exact q
    have key : ∀ j u, zO[j]? = some u → w1.cell? ⟨g, j, none⟩ = some u := fun j u hj => by
      have h1 := hown.cells (g := g) rfl j u (by simpa using hj)
      rwa [Go.Ex.addr_add, Nat.zero_add] at h1
    have hb1 : Below w.heap.size w ((W0.alloc (.cells #[.int .i64 0, .int .i64 0, .string ⟨#[]⟩, .slice none 0 0] 27)).drew) := ((hb0.alloc (by omega) _)).drew
    have hbo := hgr.block ob (show ob < (W0.alloc _).heap.size by simp; omega) (by intro e; cases e)
    have hco : w1.cell? ⟨ob, 3, none⟩ = some (.slice none 0 0) := by
      rw [World.cell?_of_block (a := ⟨ob, 3, none⟩) hbo, hb1.cell (p := ⟨ob, 3, none⟩) holt]; simp [World.cell?, ho]
    refine ⟨by omega, hco, ?_, key 0 _ rfl, key 1 _ rfl, key 2 _ rfl, key 3 _ rfl, hown.frozenAt _, hown.frozenAt _, hown.frozenAt _, hown.frozenAt _, ?_⟩
    · rw [World.frozen?_of_block (a := ⟨ob, 3, none⟩) hbo, hb1.frozen (p := ⟨ob, 3, none⟩) holt]; simp [World.frozen?, ho]
    · rcases hown.2 with ⟨h1, _⟩ | ⟨g', c', cur, h1, _, h2, h3, _, h5, _⟩
      · cases h1
      · injection h1 with h1 _ h1c
        injection h1 with h1
        injection h1 with h1
        subst h1
        exact add_fin hb1 hrlt holt hB2 hne hgr (hg.trans (by simp)) h2 (by rw [h5]; omega) (by rw [hco]; rfl))
  have hBw : B ≤ w.heap.size := by omega
  have co2 : ∀ o, (W0.alloc o).cell? ⟨ob, 3, none⟩ = some (.slice none 0 0) := fun o => by rw [World.cell?_alloc_past _ _ _ (by omega)]; exact co
  have y0 : ∀ o, (W0.alloc o).cell? ⟨w.heap.size, 0, none⟩ = some (.int .i64 k) := fun o => by rw [World.cell?_alloc_past _ _ _ (by omega)]; exact x0
  have y1 : ∀ o, (W0.alloc o).cell? ⟨w.heap.size, 1, none⟩ = some (.int .i64 n) := fun o => by rw [World.cell?_alloc_past _ _ _ (by omega)]; exact x1
  have y2 : ∀ o, (W0.alloc o).cell? ⟨w.heap.size, 2, none⟩ = some (.string ⟨#[]⟩) := fun o => by rw [World.cell?_alloc_past _ _ _ (by omega)]; exact x2
  have y3 : ∀ o, (W0.alloc o).cell? ⟨w.heap.size, 3, none⟩ = some (.slice none 0 0) := fun o => by rw [World.cell?_alloc_past _ _ _ (by omega)]; exact x3
  clear hr ho hb0 hrlt holt
  go_region_law ((refine step_append_lies _ (by rfl) (.tmp 19) (.tmp 22) 25 (by rfl) B 27 i0 (.agg #[.int .i64 0, .int .i64 0, .string ⟨#[]⟩, .slice none 0 0]) 4 56 Tryz.underlying25 hi hz0 hz1 hz2 rfl (by decide) (.slice none 0 0) 0 [] (by simp [Act.eval, Act.put]) HD.out ⟨W0.heap.size, 0, none⟩ 1 1 zO (by simp [Act.eval, Act.put]) rfl HN.out (by decide) (by decide) (by unfold maxLen; omega) (by omega) (by simp; omega) (W0.heap.size + 1) (by simp) (fun g cap w1 hown hgrow hat hlt => ?_); obtain ⟨n1, n2, n3, t0, t1, t2, t3, f0, f1, f2, f3, hA⟩ := HZ.out g cap w1 hown hgrow hat; have HA := Lib.hid hA; have n1' := n1.symm; clear hown hgrow hat hA))
  all_goals (
    first
      | rw [fill_swap _ _ _ _ _ _ _ _ n1']
      | skip
    go_end0
    exact ⟨rfl, HA.out⟩)
end Go.Proofs.YtdmgaaaomleojaaGreatDoor
