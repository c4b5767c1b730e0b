/- What the reader of brackets holds: the nodes that are done, the lists that are open; how that turns. No conditions. -/
import Derived.Test.YtlblhlnpmdfblaaDoorRd1
namespace Go.Proofs.YtlblhlnpmdfblaaDoor
open Go.RowKit

abbrev Os := List (Value × Fo × Nat)
def cellsO (os : Os) : List Value := os.flatMap fun x => [.string ⟨#[]⟩, x.1, .int .i64 (x.2.2 : Int)]
theorem cellsO_snoc (os : Os) (x : Value × Fo × Nat) : cellsO (os ++ [x]) = cellsO os ++ [.string ⟨#[]⟩, x.1, .int .i64 (x.2.2 : Int)] := by
  unfold cellsO; rw [List.flatMap_append]; rfl
theorem cellsO_len (os : Os) : (cellsO os).length = os.length * 3 := by
  induction os with
  | nil => rfl
  | cons x os ih =>
    show ([.string ⟨#[]⟩, x.1, .int .i64 (x.2.2 : Int)] ++ cellsO os).length = _
    rw [List.length_append, ih]; simp; omega
/-- As the plain reading has it. -/
def stOf : List (Fo × Nat) → Fo → Os → List (Fo × Nat) × Fo
  | st, cur, [] => (st, cur)
  | st, cur, x :: os => stOf ((cur, x.2.2) :: st) x.2.1 os
theorem stOf_snoc (x : Value × Fo × Nat) : ∀ (os : Os) (st : List (Fo × Nat)) (cur : Fo), stOf st cur (os ++ [x]) = (((stOf st cur os).2, x.2.2) :: (stOf st cur os).1, x.2.1)
  | [], _, _ => rfl
  | _ :: os, _, _ => stOf_snoc x os _ _
theorem stOf_len : ∀ (os : Os) (st : List (Fo × Nat)) (cur : Fo), (stOf st cur os).1.length = st.length + os.length
  | [], _, _ => rfl
  | x :: os, st, cur => by
    show (stOf ((cur, x.2.2) :: st) x.2.1 os).1.length = _
    rw [stOf_len os]; simp only [List.length_cons]; omega

/-- The reader, in memory. -/
structure St (w : World) (B R : Nat) (lab : Nat → Nat) (vD vO : Value) (f0 : Fo) (os : Os) : Prop where
  ge : B ≤ R
  at_ : w.heap[R]? = some (.cells #[vD, vO] 46 (0, 0))
  lab1 : lab R = 1
  done : Row w B lab 3 vD f0
  opn : w.ownsRow B 39 3 vO os.length (cellsO os)
  opnL : ∀ g, vO.ownBlock = some g → lab g = 2
  rows : ∀ i x, os[i]? = some x → Row w B lab (4 + i) x.1 x.2.1

theorem St.lt {w : World} {B R : Nat} {lab : Nat → Nat} {vD vO : Value} {f0 : Fo} {os : Os} (h : St w B R lab vD vO f0 os) : R < w.heap.size := (Array.getElem?_eq_some_iff.1 h.at_).1
theorem St.kept {w w' : World} {B R : Nat} {lab lab' : Nat → Nat} {vD vO : Value} {f0 : Fo} {os : Os} (h : St w B R lab vD vO f0 os) (k : Kept w w' lab lab' (fun _ => True)) : St w' B R lab' vD vO f0 os where
  ge := h.ge
  at_ := (k.2 R h.lt trivial).1.trans h.at_
  lab1 := (k.2 R h.lt trivial).2.trans h.lab1
  done := h.done.kept (k.sub fun _ _ => trivial)
  opn := owns_same h.opn fun g hg => (k.2 g (h.opn.lt g hg).2 trivial).1
  opnL := fun g hg => (k.2 g (h.opn.lt g hg).2 trivial).2.trans (h.opnL g hg)
  rows := fun i x hx => (h.rows i x hx).kept (k.sub fun _ _ => trivial)
theorem St.alloc {w : World} {B R : Nat} {lab : Nat → Nat} {vD vO : Value} {f0 : Fo} {os : Os} (h : St w B R lab vD vO f0 os) (o : Obj) : St (w.alloc o) B R lab vD vO f0 os := h.kept (Kept.alloc w o lab _)
theorem St.c0 {w : World} {B R : Nat} {lab : Nat → Nat} {vD vO : Value} {f0 : Fo} {os : Os} (h : St w B R lab vD vO f0 os) : w.cell? ⟨R, 0, none⟩ = some vD := by rw [cell_of_row w R 0 _ _ _ h.at_]; rfl
theorem St.c1 {w : World} {B R : Nat} {lab : Nat → Nat} {vD vO : Value} {f0 : Fo} {os : Os} (h : St w B R lab vD vO f0 os) : w.cell? ⟨R, 1, none⟩ = some vO := by rw [cell_of_row w R 1 _ _ _ h.at_]; rfl
theorem St.fz {w : World} {B R : Nat} {lab : Nat → Nat} {vD vO : Value} {f0 : Fo} {os : Os} (h : St w B R lab vD vO f0 os) (j : Nat) : w.frozen? ⟨R, j, none⟩ = false := frozen_of_row w R j _ _ h.at_

/-- Where a row lies, as a label says it, behind an append. -/
theorem fresh_block {w : World} {v v' : Value} {lab : Nat → Nat} {l : Nat} (hf : Fresh w v v') (hl : ∀ g, v.ownBlock = some g → lab g = l) {g : Nat} (hg : v'.ownBlock = some g) : lab g = l ∨ w.heap.size ≤ g := by
  rcases hf with h | ⟨g', h, h2⟩
  · rw [hg] at h; exact .inl (hl g h.symm)
  · rw [hg] at h; injection h with h; subst h; exact .inr h2
theorem setLab_new {lab : Nat → Nat} {v : Value} {l : Nat} : ∀ g, v.ownBlock = some g → setLab lab v l g = l := fun g hg => by unfold setLab; rw [if_pos hg]

/-- A list is opened. -/
theorem st_push {w w' : World} {B R : Nat} {lab : Nat → Nat} {vD vO v' : Value} {f0 : Fo} {os : Os} {p : Nat} (h : St w B R lab vD vO f0 os) (hg : w.grownBy w' vO.ownBlock) (hf : Fresh w vO v')
    (ho : w'.ownsRow B 39 3 v' (os.length + 1) (cellsO os ++ [.string ⟨#[]⟩, .slice none 0 0, .int .i64 (p : Int)])) :
    ∃ lab', St (w'.setCell ⟨R, 1, none⟩ v') B R lab' vD v' f0 (os ++ [(.slice none 0 0, .nil, p)]) := by
  have k1 : Kept w w' lab (setLab lab v' 2) (fun x => x ≠ 2) := Kept.append hg hf h.opnL (by simp)
  have hR : w'.heap[R]? = some (.cells #[vD, vO] 46 (0, 0)) := (k1.2 R h.lt (by rw [h.lab1]; decide)).1.trans h.at_
  have hlR : setLab lab v' 2 R = 1 := (k1.2 R h.lt (by rw [h.lab1]; decide)).2.trans h.lab1
  have k2 : Kept w' (w'.setCell ⟨R, 1, none⟩ v') (setLab lab v' 2) (setLab lab v' 2) (fun x => x ≠ 1) := Kept.set w' _ _ _ _ (by show ¬ setLab lab v' 2 R ≠ 1; rw [hlR]; simp)
  have k : Kept w (w'.setCell ⟨R, 1, none⟩ v') lab (setLab lab v' 2) (fun x => x ≠ 1 ∧ x ≠ 2) := (k1.sub fun x hx => hx.2).trans (k2.sub fun x hx => hx.1)
  refine ⟨setLab lab v' 2, h.ge, ?_, hlR, h.done.kept (k.sub fun x hx => by omega), ?_, fun g hg => setLab_new g hg, fun i x hx => ?_⟩
  · exact heap_setCell_same w' R 1 _ _ _ hR
  · rw [cellsO_snoc, List.length_append]
    refine owns_same ho fun g hg => (k2.2 g (ho.lt g hg).2 (by rw [setLab_new g hg]; decide)).1
  · rcases Nat.lt_or_ge i os.length with hi | hi
    · rw [List.getElem?_append_left hi] at hx
      exact (h.rows i x hx).kept (k.sub fun x hx => by omega)
    · rw [List.getElem?_append_right hi] at hx
      obtain ⟨q, hq⟩ : ∃ q, q = i - os.length := ⟨_, rfl⟩
      rw [← hq] at hx
      cases q with
      | zero => simp at hx; subst hx; exact Row.nil _ _ _ _
      | succ q => simp at hx

/-- Something is put to what stands in no bracket. -/
theorem st_done {w w' : World} {B R : Nat} {lab : Nat → Nat} {vD vO v' : Value} {f0 g : Fo} {ds : List Value} (h : St w B R lab vD vO f0 []) (hg : w.grownBy w' vD.ownBlock) (hf : Fresh w vD v') (hgl : FoCsL w lab g ds)
    (ho : ∀ cs, w.ownsRow B 39 3 vD f0.len cs → w'.ownsRow B 39 3 v' (f0.len + g.len) (cs ++ ds)) :
    ∃ lab', St (w'.setCell ⟨R, 0, none⟩ v') B R lab' v' vO (f0.app g) [] := by
  obtain ⟨cs, d1, d2, d3⟩ := h.done
  have ho' := ho cs d1
  have k1 : Kept w w' lab (setLab lab v' 3) (fun x => x ≠ 3) := Kept.append hg hf d3 (by simp)
  have hR : w'.heap[R]? = some (.cells #[vD, vO] 46 (0, 0)) := (k1.2 R h.lt (by rw [h.lab1]; decide)).1.trans h.at_
  have hlR : setLab lab v' 3 R = 1 := (k1.2 R h.lt (by rw [h.lab1]; decide)).2.trans h.lab1
  have k2 : Kept w' (w'.setCell ⟨R, 0, none⟩ v') (setLab lab v' 3) (setLab lab v' 3) (fun x => x ≠ 1) := Kept.set w' _ _ _ _ (by show ¬ setLab lab v' 3 R ≠ 1; rw [hlR]; simp)
  have k : Kept w (w'.setCell ⟨R, 0, none⟩ v') lab (setLab lab v' 3) (fun x => x ≠ 1 ∧ x ≠ 3) := (k1.sub fun x hx => hx.2).trans (k2.sub fun x hx => hx.1)
  refine ⟨setLab lab v' 3, h.ge, heap_setCell_same w' R 0 _ _ _ hR, hlR, ⟨cs ++ ds, ?_, ?_, fun g hg => setLab_new g hg⟩, ?_, fun g hg => ?_, fun i x hx => by simp at hx⟩
  · rw [Fo.app_len]
    exact owns_same ho' fun g hg => (k2.2 g (ho'.lt g hg).2 (by rw [setLab_new g hg]; decide)).1
  · exact FoCsL.app (hgl.kept (k.sub fun x hx => by omega)) (d2.kept (k.sub fun x hx => by omega))
  · exact owns_same h.opn fun g hg => (k.2 g (h.opn.lt g hg).2 (by rw [h.opnL g hg]; decide)).1
  · rw [(k.2 g (h.opn.lt g hg).2 (by rw [h.opnL g hg]; decide)).2]; exact h.opnL g hg

theorem owns_take {w : World} {base : Nat} {e : TypeId} {size : Nat} {ao : Option Addr} {n cap : Nat} {xs ys : List Value} {m : Nat} (h : w.ownsRow base e size (.slice ao n cap) n (xs ++ ys)) (hs : 0 < size) (hx : xs.length = m * size) (hn : ao ≠ none) : w.ownsRow base e size (.slice ao m cap) m xs := by
  refine ⟨hx, ?_⟩
  have hlen := h.1
  rcases h.2 with ⟨h1, _⟩ | ⟨g, c, cur, h1, h2, h3, h4, h5, h6, h7⟩
  · injection h1 with h1; exact absurd h1 hn
  · injection h1 with h1 _ h1'
    subst h1 h1'
    have hmn : m * size ≤ n * size := by rw [← hlen, List.length_append, hx]; omega
    refine .inr ⟨g, cap, cur, rfl, h2, h3, ?_, h5, h6, ?_⟩
    · have := Nat.le_of_mul_le_mul_right hmn hs
      omega
    · have : xs = (cur.toList.take (n * size)).take (m * size) := by rw [h7, ← hx, List.take_left]
      rw [this, List.take_take, Nat.min_eq_left hmn]

theorem opn_some {w : World} {base : Nat} {e : TypeId} {size : Nat} {v : Value} {n : Nat} {xs : List Value} (h : w.ownsRow base e size v (n + 1) xs) : ∃ g cap, v = .slice (some ⟨g, 0, none⟩) (n + 1) cap := by
  rcases h.2 with ⟨_, h0⟩ | ⟨g, cap, cur, h1, _⟩
  · omega
  · exact ⟨g, cap, h1⟩
theorem cellsO_set (os : Os) (v v' : Value) (f f' : Fo) (p : Nat) : (cellsO (os ++ [(v, f, p)])).set (os.length * 3 + 1) v' = cellsO (os ++ [(v', f', p)]) := by
  rw [cellsO_snoc, cellsO_snoc, List.set_append_right _ _ (by rw [cellsO_len]; omega), cellsO_len]
  rw [show os.length * 3 + 1 - os.length * 3 = 1 by omega]
  rfl
theorem get_snoc {α : Type} {l : List α} {x y : α} {i : Nat} (h : (l ++ [x])[i]? = some y) : (i < l.length ∧ l[i]? = some y) ∨ (i = l.length ∧ y = x) := by
  rcases Nat.lt_or_ge i l.length with hi | hi
  · rw [List.getElem?_append_left hi] at h
    exact .inl ⟨hi, h⟩
  · rw [List.getElem?_append_right hi] at h
    obtain ⟨q, hq⟩ : ∃ q, q = i - l.length := ⟨_, rfl⟩
    rw [← hq] at h
    cases q with
    | zero => simp at h; exact .inr ⟨by omega, h.symm⟩
    | succ q => simp at h

/-- Something is put to the list that is open. -/
theorem st_add {w w' : World} {B R O cap : Nat} {lab : Nat → Nat} {vD v v' : Value} {f0 f g : Fo} {os : Os} {p : Nat} {ds : List Value} (h : St w B R lab vD (.slice (some ⟨O, 0, none⟩) (os.length + 1) cap) f0 (os ++ [(v, f, p)])) (hg : w.grownBy w' v.ownBlock) (hf : Fresh w v v') (hgl : FoCsL w lab g ds)
    (ho : ∀ cs, w.ownsRow B 39 3 v f.len cs → w'.ownsRow B 39 3 v' (f.len + g.len) (cs ++ ds)) :
    ∃ lab', St (w'.setCell ⟨O, os.length * 3 + 1, none⟩ v') B R lab' vD (.slice (some ⟨O, 0, none⟩) (os.length + 1) cap) f0 (os ++ [(v', f.app g, p)]) := by
  have hlast : (os ++ [(v, f, p)])[os.length]? = some (v, f, p) := by rw [List.getElem?_append_right (Nat.le_refl _)]; simp
  obtain ⟨cs, d1, d2, d3⟩ := h.rows _ _ hlast
  have ho' := ho cs d1
  have hlen : (os ++ [(v, f, p)]).length = os.length + 1 := by rw [List.length_append]; rfl
  have k1 : Kept w w' lab (setLab lab v' (4 + os.length)) (fun x => x ≠ 4 + os.length) := Kept.append hg hf d3 (by simp)
  have hlO : lab O = 2 := h.opnL O rfl
  have hOlt := (h.opn.lt O rfl).2
  have hlO' : setLab lab v' (4 + os.length) O = 2 := (k1.2 O hOlt (by rw [hlO]; omega)).2.trans hlO
  have opn1 : w'.ownsRow B 39 3 (.slice (some ⟨O, 0, none⟩) (os.length + 1) cap) (os.length + 1) (cellsO (os ++ [(v, f, p)])) := by
    have := h.opn
    rw [hlen] at this
    exact owns_same this fun g hg => (k1.2 g (this.lt g hg).2 (by rw [h.opnL g hg]; omega)).1
  obtain ⟨s1, s2⟩ := opn1.stored (os.length * 3 + 1) v'
  rw [cellsO_set os v v' f (f.app g) p] at s1
  have k2 : Kept w' (w'.setCell ⟨O, os.length * 3 + 1, none⟩ v') (setLab lab v' (4 + os.length)) (setLab lab v' (4 + os.length)) (fun x => x ≠ 2) := Kept.set w' _ _ _ _ (by show ¬ setLab lab v' (4 + os.length) O ≠ 2; rw [hlO']; simp)
  have k : Kept w (w'.setCell ⟨O, os.length * 3 + 1, none⟩ v') lab (setLab lab v' (4 + os.length)) (fun x => x ≠ 2 ∧ x ≠ 4 + os.length) := (k1.sub fun x hx => hx.2).trans (k2.sub fun x hx => hx.1)
  refine ⟨setLab lab v' (4 + os.length), h.ge, ?_, ?_, h.done.kept (k.sub fun x hx => by omega), ?_, fun g hg => ?_, fun i x hx => ?_⟩
  · exact (k.2 R h.lt (by rw [h.lab1]; omega)).1.trans h.at_
  · exact (k.2 R h.lt (by rw [h.lab1]; omega)).2.trans h.lab1
  · rw [List.length_append]; exact s1
  · simp only [Value.ownBlock, Option.some.injEq] at hg; subst hg; exact hlO'
  · rcases get_snoc hx with ⟨hi, hx⟩ | ⟨rfl, rfl⟩
    · refine (h.rows i x (by rw [List.getElem?_append_left hi]; exact hx)).kept (k.sub fun x hx => by omega)
    · refine ⟨cs ++ ds, ?_, ?_, fun g hg => setLab_new g hg⟩
      · rw [Fo.app_len]
        exact owns_same ho' fun g hg => (k2.2 g (ho'.lt g hg).2 (by rw [setLab_new g hg]; omega)).1
      · exact FoCsL.app (hgl.kept (k.sub fun x hx => by omega)) (d2.kept (k.sub fun x hx => by omega))

/-- A list is closed: the reader's book of open ones is one shorter; what was in it stands from now on. -/
theorem st_pop {w : World} {B R O cap : Nat} {lab : Nat → Nat} {vD v : Value} {f0 f : Fo} {os : Os} {p : Nat} (h : St w B R lab vD (.slice (some ⟨O, 0, none⟩) (os.length + 1) cap) f0 (os ++ [(v, f, p)])) :
    ∃ lab', St (w.setCell ⟨R, 1, none⟩ (.slice (some ⟨O, 0, none⟩) os.length cap)) B R lab' vD (.slice (some ⟨O, 0, none⟩) os.length cap) f0 os ∧ FoCsL (w.setCell ⟨R, 1, none⟩ (.slice (some ⟨O, 0, none⟩) os.length cap)) lab' (.list f p .nil) [.string ⟨#[]⟩, v, .int .i64 (p : Int)] := by
  have hlast : (os ++ [(v, f, p)])[os.length]? = some (v, f, p) := by rw [List.getElem?_append_right (Nat.le_refl _)]; simp
  obtain ⟨cs, d1, d2, d3⟩ := h.rows _ _ hlast
  have hlen : (os ++ [(v, f, p)]).length = os.length + 1 := by rw [List.length_append]; rfl
  obtain ⟨w', hw'⟩ : ∃ w', w' = w.setCell ⟨R, 1, none⟩ (.slice (some ⟨O, 0, none⟩) os.length cap) := ⟨_, rfl⟩
  have k0 : Kept w w' lab lab (fun x => x ≠ 1) := by rw [hw']; exact Kept.set w _ _ _ _ (by show ¬ lab R ≠ 1; rw [h.lab1]; simp)
  have k : Kept w w' lab (fun b => if lab b = 4 + os.length then 0 else lab b) (fun x => x ≠ 1 ∧ x ≠ 4 + os.length) := ⟨k0.1, fun b hb hx => ⟨(k0.2 b hb hx.1).1, if_neg hx.2⟩⟩
  have hO : w.ownsRow B 39 3 (.slice (some ⟨O, 0, none⟩) os.length cap) os.length (cellsO os) := by
    have := h.opn
    rw [hlen, cellsO_snoc] at this
    exact owns_take this (by decide) (cellsO_len os) (by simp)
  have hlO : lab O = 2 := h.opnL O rfl
  rw [← hw']
  refine ⟨fun b => if lab b = 4 + os.length then 0 else lab b, ⟨h.ge, ?_, ?_, h.done.kept (k.sub fun x hx => by omega), ?_, fun g hg => ?_, fun i x hx => ?_⟩, ?_⟩
  · rw [hw']; exact heap_setCell_same w R 1 _ _ _ h.at_
  · show (if lab R = 4 + os.length then 0 else lab R) = 1
    rw [h.lab1, if_neg (by omega)]
  · exact owns_same hO fun g hg => (k0.2 g (hO.lt g hg).2 (by simp only [Value.ownBlock, Option.some.injEq] at hg; subst hg; rw [hlO]; decide)).1
  · simp only [Value.ownBlock, Option.some.injEq] at hg; subst hg
    show (if lab O = 4 + os.length then 0 else lab O) = 2
    rw [hlO, if_neg (by omega)]
  · have hi := (List.getElem?_eq_some_iff.1 hx).1
    exact (h.rows i x (by rw [List.getElem?_append_left hi]; exact hx)).kept (k.sub fun x hx => by omega)
  · have d1' : w'.ownsRow B 39 3 v f.len cs := owns_same d1 fun g hg => (k0.2 g (d1.lt g hg).2 (by rw [d3 g hg]; omega)).1
    obtain ⟨ao, c, hv, hF⟩ := foAtL_of_owns (f := f) (lab := fun b => if lab b = 4 + os.length then 0 else lab b) d1' (d2.kept (k.sub fun x hx => by omega)) (fun g hg => if_pos (d3 g hg))
    exact ⟨ao, c, [], by rw [hv], hF, rfl⟩
/-- The last list that is open, in memory. -/
theorem st_last {w : World} {B R O cap : Nat} {lab : Nat → Nat} {vD v : Value} {f0 f : Fo} {os : Os} {p : Nat} (h : St w B R lab vD (.slice (some ⟨O, 0, none⟩) (os.length + 1) cap) f0 (os ++ [(v, f, p)])) :
    w.cell? ⟨O, os.length * 3, none⟩ = some (.string ⟨#[]⟩) ∧ w.cell? ⟨O, os.length * 3 + 1, none⟩ = some v ∧ w.cell? ⟨O, os.length * 3 + 2, none⟩ = some (.int .i64 (p : Int)) ∧ w.frozen? ⟨O, os.length * 3 + 1, none⟩ = false ∧ B ≤ O := by
  have ho := h.opn
  rw [List.length_append, show [(v, f, p)].length = 1 from rfl] at ho
  have key : ∀ j u, [Value.string ⟨#[]⟩, v, .int .i64 (p : Int)][j]? = some u → w.cell? ⟨O, os.length * 3 + j, none⟩ = some u := fun j u hj => by
    have h1 := ho.cells (g := O) rfl (os.length * 3 + j) u (by rw [cellsO_snoc, List.getElem?_append_right (by rw [cellsO_len]; omega), cellsO_len, Nat.add_sub_cancel_left]; exact hj)
    rwa [addr_add', Nat.zero_add] at h1
  exact ⟨key 0 _ rfl, key 1 _ rfl, key 2 _ rfl, ho.frozenAt _, (ho.lt O rfl).1⟩
end Go.Proofs.YtlblhlnpmdfblaaDoor
