/- The list of names of package free: has. Conditions: 64 bits; the names' lengths. -/
import Derived.Test.YtlniackafagajaaDoorFr0
import Derived.Test.YtlniackafagajaaDoorGrew
import Derived.Maps.OwnSet
import Derived.Maps.Own
import Derived.OneCell
import Derived.Laws.AppendOwn
import Derived.OwnWalk
import Derived.Deep.AppendLies
import Derived.Deep.RegionLaw
namespace Go.Proofs.YtlniackafagajaaDoor
open Go.RowKit Go.Maps
open Go.WideMaps (keyOf_string_mk)

theorem kstr : Keyed Tryd.prog 9 := string_keyed Tryd.underlying9
theorem zint (w : World) : (zeroValue 3).run Tryd.prog w = .ok (.int .i64 0) w := by kernel_rfl
/-- Block b is a map of texts to whole numbers. -/
def SM (w : World) (b n : Nat) (D : DataW Unit) : Prop := w.ownsMap Tryd.prog 9 (plainElem Tryd.prog 3) b n D
def keyL (s : ByteArray) : Lit := .string s.data.toList

set_option maxRecDepth 100000 in
set_option maxHeartbeats 1000000 in
theorem lhas_any (lb mb n : Nat) (D : DataW Unit) (s : ByteArray) (hs : s.size ≤ maxLen) (w : World) (c : w.cell? ⟨lb, 1, none⟩ = some (.map (some mb))) (hown : SM w mb n D) :
    Calls Tryd.prog 18 #[.pointer (some ⟨lb, 0, none⟩), .string s] w fun e w' => e = .returned (.bool (Maps.has D (keyL s))) ∧ w.grownBy w' none := by
  have hkey := keyOf_string_mk Tryd.underlying9 hs
  go_enter Tryd.func18, Tryd.ntmps18
  go_wp2_with (at_lookup; refine wpList_lookup_own_ok_int _ rfl _ _ 39 rfl 9 3 .i64 kstr Tryd.underlying39 Tryd.underlying3 (zint _) mb n D rfl hown _ _ rfl hkey ?_; intro c1 _ _)
  go_ret
  exact ⟨rfl, World.grownBy.refl _ _⟩

/-! ### Adding -/
theorem infoStr : (Tryd.prog.info? 9).map (fun i => (i.zero, i.size, i.bytes)) = some (some (.string ⟨#[]⟩), 1, 16) := by kernel_rfl
theorem nil_map (w : World) : (binOp .eql 39 (.map none) (.map none)).run Tryd.prog w = .ok (.bool true) w := by kernel_rfl
theorem some_map (w : World) (b : Nat) : (binOp .eql 39 (.map (some b)) (.map none)).run Tryd.prog w = .ok (.bool false) w := by kernel_rfl

/-- A list of names in memory, its map made: its texts, and the map that tells whether one is among them. -/
def LMt (w : World) (lb base : Nat) (L : List ByteArray) : Prop := base ≤ lb ∧ ∃ v0 mb D, w.heap[lb]? = some (.cells #[v0, .map (some mb)] 41 (0, 0)) ∧ w.ownsRow base 9 1 v0 L.length (L.map .string) ∧
  base ≤ mb ∧ SM w mb L.length D ∧ ∀ s, s.size ≤ maxLen → Maps.has D (keyL s) = hasB L s
theorem owns_type {w : World} {base : Nat} {e t : TypeId} {sz n lb : Nat} {v : Value} {xs : List Value} {cs : Array Value} {fr : Nat × Nat} (h : w.ownsRow base e sz v n xs) (c : w.heap[lb]? = some (.cells cs t fr)) (hne : t ≠ e) : v.ownBlock ≠ some lb := by
  rcases h.2 with ⟨rfl, _⟩ | ⟨g, cap, cur, rfl, _, hg, _⟩
  · intro e; cases e
  · intro e
    have : g = lb := by simpa [Value.ownBlock] using e
    subst this
    rw [c] at hg
    injection hg with hg
    injection hg with _ hg _
    exact hne hg
theorem owns_nomap {w : World} {base mb n' : Nat} {D : DataW Unit} {e : TypeId} {sz n : Nat} {v : Value} {xs : List Value} (h : w.ownsRow base e sz v n xs) (c : SM w mb n' D) : v.ownBlock ≠ some mb := by
  obtain ⟨es, clock, hb, _⟩ := c
  rcases h.2 with ⟨rfl, _⟩ | ⟨g, cap, cur, rfl, _, hg, _⟩
  · intro e; cases e
  · intro e
    have : g = mb := by simpa [Value.ownBlock] using e
    subst this
    rw [hb] at hg
    cases hg
theorem cells_nomap {w : World} {mb n' lb : Nat} {D : DataW Unit} {cs : Array Value} {t : TypeId} {fr : Nat × Nat} (c : w.heap[lb]? = some (.cells cs t fr)) (h : SM w mb n' D) : lb ≠ mb := by
  obtain ⟨es, clock, hb, _⟩ := h
  rintro rfl
  rw [hb] at c
  cases c
theorem key_ne {s t : ByteArray} (h : t ≠ s) : keyL t ≠ keyL s := fun e => by
  unfold keyL at e
  injection e with e
  exact h (ByteArray.ext (Array.toList_inj.1 e))
theorem has_put (D : DataW Unit) (hD : IsMap D) (L : List ByteArray) (s : ByteArray) (d : DataW Unit) (hh : ∀ t, t.size ≤ maxLen → Maps.has D (keyL t) = hasB L t) (t : ByteArray) (ht : t.size ≤ maxLen) : Maps.has (D.put (keyL s) d) (keyL t) = hasB (L ++ [s]) t := by
  rw [hasB_append]
  by_cases e : t = s
  · subst e
    rw [has_put_same hD (by unfold WideAt.IsKeyLit keyL; trivial) d]
    have : hasB [t] t = true := (hasB_mem _ _).2 (by simp)
    rw [this, Bool.or_true]
  · rw [has_put_other (key_ne e) d, hh t ht]
    have : hasB [s] t = false := by
      cases h : hasB [s] t
      · rfl
      · exact absurd (List.mem_singleton.1 ((hasB_mem _ _).1 h)) e
    rw [this, Bool.or_false]
/-- Behind a name that wasn't there. -/
theorem LMt.snoc {w w3 w4 : World} {lb base mb : Nat} {L : List ByteArray} {s : ByteArray} {v0 v1 : Value} {D : DataW Unit} {d : DataW Unit} (hbl : base ≤ lb) (c : w.heap[lb]? = some (.cells #[v0, .map (some mb)] 41 (0, 0)))
    (hr : w.ownsRow base 9 1 v0 L.length (L.map .string)) (hbm : base ≤ mb) (hm : SM w mb L.length D) (hh : ∀ t, t.size ≤ maxLen → Maps.has D (keyL t) = hasB L t)
    (hm3 : SM w3 mb (L.length + 1) (D.put (keyL s) d)) (hg3 : w.grownBy w3 (some mb)) (ho : w4.ownsRow base 9 1 v1 (L.length + 1) (L.map .string ++ [.string s])) (hg4 : w3.grownBy w4 v0.ownBlock) (B : Nat) (hB : B ≤ base) (hbw : base ≤ w.heap.size) :
    LMt (w4.setCell ⟨lb, 0, none⟩ v1) lb base (L ++ [s]) ∧ Below B w (w4.setCell ⟨lb, 0, none⟩ v1) := by
  have hlt : lb < w.heap.size := (Array.getElem?_eq_some_iff.1 c).1
  have n1 : lb ≠ mb := cells_nomap c hm
  have n2 : v0.ownBlock ≠ some lb := owns_type hr c (by decide)
  have n3 : v0.ownBlock ≠ some mb := owns_nomap hr hm
  have c3 : w3.heap[lb]? = some (.cells #[v0, .map (some mb)] 41 (0, 0)) := by rw [hg3.block lb hlt (fun e => n1 (by injection e)), c]
  have c4 : w4.heap[lb]? = some (.cells #[v0, .map (some mb)] 41 (0, 0)) := by rw [hg4.block lb (Nat.lt_of_lt_of_le hlt hg3.size) (fun e => n2 e.symm), c3]
  have m4 : SM w4 mb (L.length + 1) (D.put (keyL s) d) := hm3.kept hg4 (fun e => n3 e.symm)
  have c5 : (w4.setCell ⟨lb, 0, none⟩ v1).heap[lb]? = some (.cells #[v1, .map (some mb)] 41 (0, 0)) := by
    rw [heap_setCell_same w4 lb 0 _ _ v1 c4]; rfl
  have n4 : v1.ownBlock ≠ some lb := owns_type ho c4 (by decide)
  refine ⟨⟨hbl, v1, mb, D.put (keyL s) d, c5, ?_, hbm, ?_, ?_⟩, ?_⟩
  · rw [List.length_append, List.map_append]
    exact ownsRow_setCell_other ho n4 v1
  · rw [List.length_append]
    exact m4.setCell (fun e => n1 e.symm) _
  · exact has_put D hm.isMap L s d hh
  · have b3 : Below B w w3 := Below.grown (Below.refl _ _) hg3 (Nat.le_trans hB hbw) (fun k hk => by injection hk with hk; subst hk; exact Nat.le_trans hB hbm)
    have b4 : Below B w w4 := Below.grown b3 hg4 (Nat.le_trans (Nat.le_trans hB hbw) hg3.size) (fun k hk => Nat.le_trans hB (hr.lt k hk).1)
    exact Below.setCell b4 (p := ⟨lb, 0, none⟩) (Nat.le_trans hB hbl) _

def addL (L : List ByteArray) (s : ByteArray) : List ByteArray := if hasB L s then L else L ++ [s]
theorem addL_has (L : List ByteArray) (s t : ByteArray) : hasB (addL L s) t = (hasB L t || hasB [s] t) := by
  unfold addL
  split
  · rename_i h
    cases ht : hasB [s] t
    · simp
    · obtain rfl : t = s := List.mem_singleton.1 ((hasB_mem _ _).1 ht)
      rw [h]; rfl
  · rw [hasB_append]
theorem addL_len (L : List ByteArray) (s : ByteArray) : (addL L s).length ≤ L.length + 1 := by
  unfold addL; split <;> simp
def addAll (L : List ByteArray) (l : List ByteArray) : List ByteArray := l.foldl addL L
theorem addAll_has (l : List ByteArray) : ∀ (L : List ByteArray) (t : ByteArray), hasB (addAll L l) t = (hasB L t || hasB l t) := by
  induction l with
  | nil => intro L t; simp [addAll, hasB]
  | cons s l ih =>
    intro L t
    show hasB (addAll (addL L s) l) t = _
    rw [ih, addL_has, Bool.or_assoc]
    congr 1
    rw [← hasB_append]
    rfl
theorem addAll_len (l : List ByteArray) : ∀ L : List ByteArray, (addAll L l).length ≤ L.length + l.length := by
  induction l with
  | nil => intro L; simp [addAll]
  | cons s l ih =>
    intro L
    have := ih (addL L s)
    have := addL_len L s
    show (addAll (addL L s) l).length ≤ _
    rw [List.length_cons]
    omega
theorem addAll_snoc (l : List ByteArray) (s : ByteArray) (L : List ByteArray) : addAll L (l ++ [s]) = addL (addAll L l) s := by
  unfold addAll; rw [List.foldl_append]; rfl

/-- Texts that lie below so many blocks. -/
def NmAt (w : World) (B : Nat) (ao : Option Addr) (l : List ByteArray) : Prop := ∀ i (h : i < l.length), l[i].size ≤ maxLen ∧ ∃ b off, ao = some ⟨b, off, none⟩ ∧ b < B ∧ w.cell? ⟨b, off + i, none⟩ = some (.string l[i])

theorem slice_of_owns {w : World} {base : Nat} {e : TypeId} {size : Nat} {v : Value} {n : Nat} {xs : List Value} (h : w.ownsRow base e size v n xs) : ∃ ao cap, v = .slice ao n cap := by
  rcases h.2 with ⟨rfl, rfl⟩ | ⟨g, cap, cur, rfl, _⟩
  · exact ⟨none, 0, rfl⟩
  · exact ⟨some ⟨g, 0, none⟩, cap, rfl⟩
theorem LMt.kept {w w' : World} {lb base : Nat} {L : List ByteArray} (h : LMt w lb base L) (hg : w.grownBy w' none) : LMt w' lb base L := by
  obtain ⟨hbl, v0, mb, D, c, hr, hbm, hm, hh⟩ := h
  exact ⟨hbl, v0, mb, D, (hg.block lb (Array.getElem?_eq_some_iff.1 c).1 (by simp)).trans c, hr.kept hg (by cases h : v0.ownBlock <;> simp), hbm, hm.kept hg (by simp), hh⟩
set_option maxRecDepth 100000 in
set_option maxHeartbeats 1000000 in
theorem ladd_loop (lb base : Nat) (L0 l : List ByteArray) (ao : Option Addr) (n cap : Nat) (hn : n = l.length) (w : World) (hlen : L0.length + n ≤ 1000000) (hbw : base ≤ w.heap.size)
    (h : LMt w lb base L0) (hl : NmAt w base ao l) :
    Calls Tryd.prog 17 #[.pointer (some ⟨lb, 0, none⟩), .slice ao n cap] w fun e w' => e = .returned (.tuple #[]) ∧ LMt w' lb base (addAll L0 l) ∧ Below base w w' := by
  have HL := Lib.hid hl
  have HN := Lib.hid hn
  have H0 := Lib.hid h
  obtain ⟨_, v0, mb0, D, c, _, _, _, _⟩ := h
  have c1 : w.cell? ⟨lb, 1, none⟩ = some (.map (some mb0)) := by simp [World.cell?, c]
  have hem := some_map
  obtain ⟨i0, hi, hz0, hz1, hz2⟩ := info_parts infoStr
  clear hl hn c
  go_enter Tryd.func17, Tryd.ntmps17
  go_wp2_with fail
  go_loopw [17] (fun vi wr => ∃ k : Nat, k ≤ n ∧ vi = .int .i64 k ∧ Hid (LMt wr lb base (addAll L0 (l.take k)) ∧ Below base w wr)) (fun vi _ => n + 1 - (intOf vi).toNat)
  case atStart => exact ⟨0, by omega, rfl, Lib.hid ⟨H0.out, Below.refl _ _⟩⟩
  case round =>
    obtain ⟨k, hk, rfl, hR⟩ := hrel
    by_cases hkn : k < n
    · have hkl : k < l.length := by rw [← HN.out]; exact hkn
      obtain ⟨sz, b, off, rfl, hb, cs⟩ := HL.out k hkl
      have cs1 := (hR.out.2.cell (p := ⟨b, off + k, none⟩) hb).trans cs
      obtain ⟨s, hs⟩ : ∃ s, s = l[k] := ⟨_, rfl⟩
      rw [← hs] at sz cs1
      have HS := Lib.hid hs
      clear hs cs
      obtain ⟨L, hL⟩ : ∃ L, L = addAll L0 (l.take k) := ⟨_, rfl⟩
      have hLl : L.length ≤ L0.length + k := by rw [hL]; have := addAll_len (l.take k) L0; rw [List.length_take] at this; omega
      rw [← hL] at hR
      have HLL := Lib.hid hL
      clear hL
      obtain ⟨hbl, v0, mb, D, hc, hr, hbm, hm, hh⟩ := hR.out.1
      have c1 : wr.cell? ⟨lb, 1, none⟩ = some (.map (some mb)) := by simp [World.cell?, hc]
      have hkz : (k : Int) < (n : Int) := by omega
      have hk0 : (0 : Int) ≤ (k : Int) := by omega
      go_wp2_with fail
      refine (lhas_any lb mb _ D s sz _ c1 hm).mono ?_
      rintro e w2 ⟨rfl, hg2⟩
      rw [hh s sz]
      have HW := Lib.hid (hR.out.2.grown hg2 (Nat.le_trans hbw hR.out.2.size) (fun _ h => by cases h))
      have h2 := hR.out.1.kept hg2
      clear hc hr hbm hm hh hbl c1 hR hg2
      cases hx : hasB L s
      · obtain ⟨hbl, v0, mb, D, hc, hr, hbm, hm, hh⟩ := h2
        have c1 : w2.cell? ⟨lb, 1, none⟩ = some (.map (some mb)) := by simp [World.cell?, hc]
        have c0 : w2.cell? ⟨lb, 0, none⟩ = some v0 := by simp [World.cell?, hc]
        have hkey := keyOf_string_mk Tryd.underlying9 sz
        obtain ⟨a0, cap0, rfl⟩ := slice_of_owns hr
        have hmk : L.length < maxLen := by unfold maxLen; omega
        have hval : plainElem (H := Unit) Tryd.prog 3 (.int .i64 (L.length : Int)) = some (.lit (.int .i64 (L.length : Int)), []) := plainElem_int Tryd.underlying3 (WalkArith.wf_i64 (by omega))
        obtain ⟨w3, hrun, hm3, hg3⟩ := World.ownsMap.update (w := w2.drew) hm kstr Tryd.underlying39 hmk hkey hval
        go_wp2_with fail
        go_region
        have hlt : lb < w2.heap.size := (Array.getElem?_eq_some_iff.1 hc).1
        have c3 : w3.heap[lb]? = some (.cells #[.slice a0 L.length cap0, .map (some mb)] 41 (0, 0)) := by rw [hg3.block lb hlt (fun e => cells_nomap hc hm (by injection e))]; exact hc
        have r3 : w3.ownsRow base 9 1 (.slice a0 L.length cap0) L.length (L.map .string) := World.ownsRow.kept (w := w2.drew) hr hg3 (.inr (owns_nomap hr hm))
        have c30 : w3.cell? ⟨lb, 0, none⟩ = some (.slice a0 L.length cap0) := by simp [World.cell?, c3]
        have r3' := r3.alloc (.cells #[.string s] 9)
        have hbw2 : base ≤ w2.heap.size := Nat.le_trans hbw HW.out.size
        have D2 : ∀ u ∈ ([.string s] : List Value), u.oneCell' = true := by intro u hu; simp at hu; subst hu; rfl
        have D3 : L.length + 1 ≤ maxLen := by unfold maxLen; omega
        have D4 : (L.length + 1) * 16 ≤ 140737488355328 := by omega
        have D5 : base ≤ (w3.alloc (.cells #[.string s] 9)).heap.size := by have := hg3.size; have : w2.drew.heap.size = w2.heap.size := rfl; simp; omega
        have HC := Lib.hid hc
        have HR2 := Lib.hid hr
        have HR3 := Lib.hid r3
        have HC3 := Lib.hid c3
        clear hc hr c0 c1 c3 r3
        go_wp2_with (first
          | (at_builtin; refine wpList_append_lies _ rfl _ _ 22 rfl base 9 i0 (.string ⟨#[]⟩) 1 16 Tryd.underlying22 hi hz0 hz1 hz2 rfl (by decide) _ _ _ rfl r3' ⟨w3.heap.size, 0, none⟩ 1 1 [.string s] rfl rfl (cell_one_new _ _ _) D2 (by decide) D3 D4 D5 _ rfl ?_
             intro g4 cap4 w4 ho4 hg4 hat4 hl4
             have hg34 := (World.grownBy_alloc w3 (.cells #[.string s] 9) (Value.slice a0 L.length cap0).ownBlock).trans hg4
             have c4 : w4.heap[lb]? = some (.cells #[.slice a0 L.length cap0, .map (some mb)] 41 (0, 0)) := by
               rw [hg34.block lb (Nat.lt_of_lt_of_le hlt hg3.size) (fun e => owns_type HR3.out HC3.out (by decide) e.symm)]
               exact HC3.out
             have c40 : w4.cell? ⟨lb, 0, none⟩ = some (.slice a0 L.length cap0) := by simp [World.cell?, c4]
             have f40 : w4.frozen? ⟨lb, 0, none⟩ = false := by simp [World.frozen?, c4]
             clear hg4 c4))
        go_roundw
        case rel =>
          obtain ⟨q1, q2⟩ := LMt.snoc (w := w2.drew) (s := s) hbl HC.out HR2.out hbm hm hh hm3 hg3 ho4 hg34 base (Nat.le_refl _) hbw2
          refine ⟨k + 1, by omega, by go_num, Lib.hid ⟨?_, ?_⟩⟩
          · rw [List.take_succ_eq_append_getElem hkl, addAll_snoc, ← HLL.out, ← HS.out]
            unfold addL
            rw [hx]
            exact q1
          · exact (HW.out.drew).trans q2
        case measure => simp [intOf]; omega
      · go_wp2_with fail
        go_roundw
        case rel =>
          refine ⟨k + 1, by omega, by go_num, Lib.hid ⟨?_, HW.out⟩⟩
          rw [List.take_succ_eq_append_getElem hkl, addAll_snoc, ← HLL.out, ← HS.out]
          unfold addL
          rw [hx]
          exact h2
        case measure => simp [intOf]; omega
    · obtain rfl : k = n := by omega
      go_wp2_with fail
      go_end0
      have := hR.out
      rw [List.take_of_length_le (by rw [← HN.out]; exact Nat.le_refl _)] at this
      exact ⟨rfl, this⟩
/-! ### Of a list that is empty -/
theorem LMt.made {w : World} {lb base : Nat} (hbl : base ≤ lb) (hbw : base ≤ w.heap.size) (c : w.heap[lb]? = some (.cells #[.slice none 0 0, .map none] 41 (0, 0))) :
    LMt ((w.setCell ⟨lb, 1, none⟩ (.map (some w.heap.size))).alloc (.map #[] 0)) lb base [] ∧ Below base w ((w.setCell ⟨lb, 1, none⟩ (.map (some w.heap.size))).alloc (.map #[] 0)) := by
  have hlt : lb < w.heap.size := (Array.getElem?_eq_some_iff.1 c).1
  have hs : (w.setCell ⟨lb, 1, none⟩ (.map (some w.heap.size))).heap.size = w.heap.size := World.size_setCell _ _ _
  have c2 := heap_setCell_same _ lb 1 _ _ (.map (some w.heap.size)) c
  refine ⟨⟨hbl, .slice none 0 0, w.heap.size, .map [], ?_, World.ownsRow_nil _ _ _ _, hbw, ?_, fun s _ => rfl⟩, ?_⟩
  · rw [Below.heap_alloc _ _ _ (by rw [hs]; exact hlt), c2]; rfl
  · have := World.ownsMap_made (w.setCell ⟨lb, 1, none⟩ (.map (some w.heap.size))) Tryd.prog 9 (plainElem (H := Unit) Tryd.prog 3)
    rw [hs] at this
    exact this
  · exact ((Below.refl _ _).setCell (p := ⟨lb, 1, none⟩) hbl _).alloc (by rw [hs]; exact hbw) _
set_option maxRecDepth 100000 in
set_option maxHeartbeats 1000000 in
theorem ladd_nil (lb base : Nat) (l : List ByteArray) (ao : Option Addr) (n cap : Nat) (hn : n = l.length) (w : World) (hlen : n ≤ 1000000) (hbl : base ≤ lb) (hbw : base ≤ w.heap.size)
    (c : w.heap[lb]? = some (.cells #[.slice none 0 0, .map none] 41 (0, 0))) (hl : NmAt w base ao l) :
    Calls Tryd.prog 17 #[.pointer (some ⟨lb, 0, none⟩), .slice ao n cap] w fun e w' => e = .returned (.tuple #[]) ∧ LMt w' lb base (addAll [] l) ∧ Below base w w' := by
  have HL := Lib.hid hl
  have HN := Lib.hid hn
  have H0 := Lib.hid (LMt.made hbl hbw c)
  obtain ⟨L0, hL0⟩ : ∃ L0 : List ByteArray, L0 = [] := ⟨_, rfl⟩
  have hll : L0.length = 0 := by rw [hL0]; rfl
  rw [← hL0] at H0 ⊢
  have c1 : w.cell? ⟨lb, 1, none⟩ = some (.map none) := by simp [World.cell?, c]
  have f1 : w.frozen? ⟨lb, 1, none⟩ = false := by simp [World.frozen?, c]
  have hlt : lb < w.heap.size := (Array.getElem?_eq_some_iff.1 c).1
  have hem := nil_map
  have hmm := @run_makeMap Tryd.prog
  obtain ⟨i0, hi, hz0, hz1, hz2⟩ := info_parts infoStr
  clear hl hn c hL0
  go_enter Tryd.func17, Tryd.ntmps17
  go_wp2_with fail
  obtain ⟨w9, hw9⟩ : ∃ w9, w9 = (w.setCell ⟨lb, 1, none⟩ (.map (some w.heap.size))).alloc (.map #[] 0) := ⟨_, rfl⟩
  rw [← hw9] at H0 ⊢
  clear hw9
  go_loopw [17] (fun vi wr => ∃ k : Nat, k ≤ n ∧ vi = .int .i64 k ∧ Hid (LMt wr lb base (addAll L0 (l.take k)) ∧ Below base w wr)) (fun vi _ => n + 1 - (intOf vi).toNat)
  case atStart => exact ⟨0, by omega, rfl, Lib.hid H0.out⟩
  case round =>
    obtain ⟨k, hk, rfl, hR⟩ := hrel
    by_cases hkn : k < n
    · have hkl : k < l.length := by rw [← HN.out]; exact hkn
      obtain ⟨sz, b, off, rfl, hb, cs⟩ := HL.out k hkl
      have cs1 := (hR.out.2.cell (p := ⟨b, off + k, none⟩) hb).trans cs
      obtain ⟨s, hs⟩ : ∃ s, s = l[k] := ⟨_, rfl⟩
      rw [← hs] at sz cs1
      have HS := Lib.hid hs
      clear hs cs
      obtain ⟨L, hL⟩ : ∃ L, L = addAll L0 (l.take k) := ⟨_, rfl⟩
      have hLl : L.length ≤ L0.length + k := by rw [hL]; have := addAll_len (l.take k) L0; rw [List.length_take] at this; omega
      rw [← hL] at hR
      have HLL := Lib.hid hL
      clear hL
      obtain ⟨hbl, v0, mb, D, hc, hr, hbm, hm, hh⟩ := hR.out.1
      have c1 : wr.cell? ⟨lb, 1, none⟩ = some (.map (some mb)) := by simp [World.cell?, hc]
      have hkz : (k : Int) < (n : Int) := by omega
      have hk0 : (0 : Int) ≤ (k : Int) := by omega
      go_wp2_with fail
      refine (lhas_any lb mb _ D s sz _ c1 hm).mono ?_
      rintro e w2 ⟨rfl, hg2⟩
      rw [hh s sz]
      have HW := Lib.hid (hR.out.2.grown hg2 (Nat.le_trans hbw hR.out.2.size) (fun _ h => by cases h))
      have h2 := hR.out.1.kept hg2
      clear hc hr hbm hm hh hbl c1 hR hg2
      cases hx : hasB L s
      · obtain ⟨hbl, v0, mb, D, hc, hr, hbm, hm, hh⟩ := h2
        have c1 : w2.cell? ⟨lb, 1, none⟩ = some (.map (some mb)) := by simp [World.cell?, hc]
        have c0 : w2.cell? ⟨lb, 0, none⟩ = some v0 := by simp [World.cell?, hc]
        have hkey := keyOf_string_mk Tryd.underlying9 sz
        obtain ⟨a0, cap0, rfl⟩ := slice_of_owns hr
        have hmk : L.length < maxLen := by unfold maxLen; omega
        have hval : plainElem (H := Unit) Tryd.prog 3 (.int .i64 (L.length : Int)) = some (.lit (.int .i64 (L.length : Int)), []) := plainElem_int Tryd.underlying3 (WalkArith.wf_i64 (by omega))
        obtain ⟨w3, hrun, hm3, hg3⟩ := World.ownsMap.update (w := w2.drew) hm kstr Tryd.underlying39 hmk hkey hval
        go_wp2_with fail
        go_region
        have hlt : lb < w2.heap.size := (Array.getElem?_eq_some_iff.1 hc).1
        have c3 : w3.heap[lb]? = some (.cells #[.slice a0 L.length cap0, .map (some mb)] 41 (0, 0)) := by rw [hg3.block lb hlt (fun e => cells_nomap hc hm (by injection e))]; exact hc
        have r3 : w3.ownsRow base 9 1 (.slice a0 L.length cap0) L.length (L.map .string) := World.ownsRow.kept (w := w2.drew) hr hg3 (.inr (owns_nomap hr hm))
        have c30 : w3.cell? ⟨lb, 0, none⟩ = some (.slice a0 L.length cap0) := by simp [World.cell?, c3]
        have r3' := r3.alloc (.cells #[.string s] 9)
        have hbw2 : base ≤ w2.heap.size := Nat.le_trans hbw HW.out.size
        have D2 : ∀ u ∈ ([.string s] : List Value), u.oneCell' = true := by intro u hu; simp at hu; subst hu; rfl
        have D3 : L.length + 1 ≤ maxLen := by unfold maxLen; omega
        have D4 : (L.length + 1) * 16 ≤ 140737488355328 := by omega
        have D5 : base ≤ (w3.alloc (.cells #[.string s] 9)).heap.size := by have := hg3.size; have : w2.drew.heap.size = w2.heap.size := rfl; simp; omega
        have HC := Lib.hid hc
        have HR2 := Lib.hid hr
        have HR3 := Lib.hid r3
        have HC3 := Lib.hid c3
        clear hc hr c0 c1 c3 r3
        go_wp2_with (first
          | (at_builtin; refine wpList_append_lies _ rfl _ _ 22 rfl base 9 i0 (.string ⟨#[]⟩) 1 16 Tryd.underlying22 hi hz0 hz1 hz2 rfl (by decide) _ _ _ rfl r3' ⟨w3.heap.size, 0, none⟩ 1 1 [.string s] rfl rfl (cell_one_new _ _ _) D2 (by decide) D3 D4 D5 _ rfl ?_
             intro g4 cap4 w4 ho4 hg4 hat4 hl4
             have hg34 := (World.grownBy_alloc w3 (.cells #[.string s] 9) (Value.slice a0 L.length cap0).ownBlock).trans hg4
             have c4 : w4.heap[lb]? = some (.cells #[.slice a0 L.length cap0, .map (some mb)] 41 (0, 0)) := by
               rw [hg34.block lb (Nat.lt_of_lt_of_le hlt hg3.size) (fun e => owns_type HR3.out HC3.out (by decide) e.symm)]
               exact HC3.out
             have c40 : w4.cell? ⟨lb, 0, none⟩ = some (.slice a0 L.length cap0) := by simp [World.cell?, c4]
             have f40 : w4.frozen? ⟨lb, 0, none⟩ = false := by simp [World.frozen?, c4]
             clear hg4 c4))
        go_roundw
        case rel =>
          obtain ⟨q1, q2⟩ := LMt.snoc (w := w2.drew) (s := s) hbl HC.out HR2.out hbm hm hh hm3 hg3 ho4 hg34 base (Nat.le_refl _) hbw2
          refine ⟨k + 1, by omega, by go_num, Lib.hid ⟨?_, ?_⟩⟩
          · rw [List.take_succ_eq_append_getElem hkl, addAll_snoc, ← HLL.out, ← HS.out]
            unfold addL
            rw [hx]
            exact q1
          · exact (HW.out.drew).trans q2
        case measure => simp [intOf]; omega
      · go_wp2_with fail
        go_roundw
        case rel =>
          refine ⟨k + 1, by omega, by go_num, Lib.hid ⟨?_, HW.out⟩⟩
          rw [List.take_succ_eq_append_getElem hkl, addAll_snoc, ← HLL.out, ← HS.out]
          unfold addL
          rw [hx]
          exact h2
        case measure => simp [intOf]; omega
    · obtain rfl : k = n := by omega
      go_wp2_with fail
      go_end0
      have := hR.out
      rw [List.take_of_length_le (by rw [← HN.out]; exact Nat.le_refl _)] at this
      exact ⟨rfl, this⟩

end Go.Proofs.YtlniackafagajaaDoor
