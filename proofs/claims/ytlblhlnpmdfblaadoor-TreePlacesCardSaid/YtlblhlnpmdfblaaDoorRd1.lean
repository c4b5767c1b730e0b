/- Rows of nodes that grow side by side: which block is whose is told by labels. No conditions. -/
import Derived.Test.YtlblhlnpmdfblaaDoorTree2
import Derived.Laws.OwnMore
namespace Go.Proofs.YtlblhlnpmdfblaaDoor
open Go.RowKit

/-! ### Appending, and where the row lies then -/
/-- Where a row lies behind an append: where it did, or in a block that is new. -/
def Fresh (w : World) (v v' : Value) : Prop := v'.ownBlock = v.ownBlock ∨ ∃ g, v'.ownBlock = some g ∧ w.heap.size ≤ g
theorem run_append_lab {P : Program} (w : World) (base : Nat) (t ty e : TypeId) (i : TypeInfo) (z : Value) (size bytes : Nat) (ht : P.underlying t = some (.slice e)) (hi : P.info? e = some i) (hz : i.zero = some z)
    (hsize : i.size = size) (hby : i.bytes = bytes) (hzs : z.cells.size = size) (hsz : 0 < size)
    (v : Value) (n : Nat) (xs : List Value) (hown : w.ownsRow base e size v n xs)
    (a : Addr) (m c : Nat) (news : List Value) (hl : news.length = m * size) (hnews : ∀ j u, news[j]? = some u → w.cell? (a.add j) = some u) (h1 : ∀ u ∈ news, u.oneCell' = true)
    (h63 : n + m ≤ maxLen) (hbytes : (n + m) * bytes ≤ 140737488355328) (hbase : base ≤ w.heap.size) :
    ∃ v' w', (Builtin.append_ #[t, t] ty #[v, .slice (some a) m c]).run P w = .ok v' w' ∧ w'.ownsRow base e size v' (n + m) (xs ++ news) ∧ w.grownBy w' v.ownBlock ∧ Fresh w v v' := by
  obtain ⟨v', w', hr, ho, hg, hn⟩ := run_append_own w base t ty e i z size bytes ht hi hz hsize hby hzs hsz v n xs hown a m c news hl hnews h1 h63 hbytes hbase
  refine ⟨v', w', hr, ho, hg, ?_⟩
  rcases hown.2 with ⟨rfl, rfl⟩ | ⟨g, cap, cur, rfl, hbg, hgg, hnc, hcm, hcs, htake⟩
  · have hx : xs = [] := List.eq_nil_of_length_eq_zero (by simpa using hown.1)
    subst hx
    obtain ⟨v2, w2, hr2, ho2, _, _⟩ := run_append_own w w.heap.size t ty e i z size bytes ht hi hz hsize hby hzs hsz _ 0 [] (World.ownsRow_nil _ _ _ _) a m c news hl hnews h1 h63 hbytes (Nat.le_refl _)
    rw [hr] at hr2
    injection hr2 with e1 e2
    subst e1 e2
    rcases ho2.2 with ⟨e1, _⟩ | ⟨g, _, _, e1, hg2, _⟩
    · left; rw [e1]
    · right; exact ⟨g, by rw [e1]; rfl, hg2⟩
  · by_cases hroom : n + m ≤ cap
    · obtain ⟨w2, hr2, _, _⟩ := run_append_fits (P := P) w base t ty e i size ht hi hsize g n cap xs hown a m c news hl hnews h1 hroom
      rw [hr] at hr2
      injection hr2 with e1 _
      left; rw [e1]; rfl
    · subst hsize hby
      have holds : ∀ j u, xs[j]? = some u → w.cell? ((⟨g, 0, none⟩ : Addr).add j) = some u := hown.cells (g := g) rfl
      have hr2 := run_append_grow (P := P) w t ty e i z ht hi hz ⟨g, 0, none⟩ n cap xs hown.1 holds a m c news hl hnews (by omega) (by simp only [maxLen] at h63; omega) (growslice_fits (by omega) hbytes)
      rw [hr] at hr2
      injection hr2 with e1 _
      right; exact ⟨w.heap.size, by rw [e1]; rfl, Nat.le_refl _⟩

theorem wpList_append_lab {P : Program} {w : World} {ops : Array Oper} {rest : List Oper} {o : Oper} {a : Act} {Q : Exit → Act → World → Prop} (hgd : o.guard = none) (s x : Operand) (t : TypeId)
    (ho : o.op = .call { callee := .builtin .append, args := #[s, x], argTypes := #[t, t] })
    (base : Nat) (e : TypeId) (i : TypeInfo) (z : Value) (size bytes : Nat) (ht : P.underlying t = some (.slice e)) (hi : P.info? e = some i) (hz : i.zero = some z)
    (hsize : i.size = size) (hby : i.bytes = bytes) (hzs : z.cells.size = size) (hsz : 0 < size)
    (v : Value) (n : Nat) (xs : List Value) (hs : a.eval s = v) (hown : w.ownsRow base e size v n xs)
    (ad : Addr) (m c : Nat) (news : List Value) (hx : a.eval x = .slice (some ad) m c) (hl : news.length = m * size) (hnews : ∀ j u, news[j]? = some u → w.cell? (ad.add j) = some u) (h1 : ∀ u ∈ news, u.oneCell' = true)
    (h63 : n + m ≤ maxLen) (hbytes : (n + m) * bytes ≤ 140737488355328) (hbase : base ≤ w.heap.size)
    (h : ∀ v' w', w'.ownsRow base e size v' (n + m) (xs ++ news) → w.grownBy w' v.ownBlock → Fresh w v v' → wpList P ops Q rest (a.put o.dst v') w') : wpList P ops Q (o :: rest) a w := by
  refine wpList_plain hgd fun K hK => ?_
  obtain ⟨v', w', hr, h2, h3, h4⟩ := run_append_lab (P := P) w base t o.type e i z size bytes ht hi hz hsize hby hzs hsz v n xs hown ad m c news hl hnews h1 h63 hbytes hbase
  unfold Oper.wp execOp
  simp only [ho, resolve, invoke, builtin, Sem.run_bind, Sem.run_pure, Result.andThen_ok, List.map_toArray, List.map_cons, List.map_nil, hs, hx, hr]
  exact hK _ _ (h v' w' h2 h3 h4)

/-! ### Labels -/
/-- The blocks whose labels are in S stand, and keep their labels. -/
def Kept (w w' : World) (lab lab' : Nat → Nat) (S : Nat → Prop) : Prop := w.heap.size ≤ w'.heap.size ∧ ∀ b, b < w.heap.size → S (lab b) → w'.heap[b]? = w.heap[b]? ∧ lab' b = lab b
theorem Kept.sub {w w' : World} {lab lab' : Nat → Nat} {S S' : Nat → Prop} (h : Kept w w' lab lab' S) (hs : ∀ x, S' x → S x) : Kept w w' lab lab' S' := ⟨h.1, fun b hb hx => h.2 b hb (hs _ hx)⟩
theorem Kept.trans {a b c : World} {l1 l2 l3 : Nat → Nat} {S : Nat → Prop} (h : Kept a b l1 l2 S) (k : Kept b c l2 l3 S) : Kept a c l1 l3 S :=
  ⟨Nat.le_trans h.1 k.1, fun x hx hs => by
    obtain ⟨h1, h2⟩ := h.2 x hx hs
    obtain ⟨k1, k2⟩ := k.2 x (Nat.lt_of_lt_of_le hx h.1) (by rw [h2]; exact hs)
    exact ⟨k1.trans h1, k2.trans h2⟩⟩
theorem Kept.alloc (w : World) (o : Obj) (lab : Nat → Nat) (S : Nat → Prop) : Kept w (w.alloc o) lab lab S := ⟨by simp, fun _ hb _ => ⟨Below.heap_alloc w o _ hb, rfl⟩⟩
theorem Kept.set (w : World) (a : Addr) (u : Value) (lab : Nat → Nat) (S : Nat → Prop) (h : ¬ S (lab a.block)) : Kept w (w.setCell a u) lab lab S := ⟨by simp, fun b _ hs => ⟨heap_setCell_other w a b u (fun e => h (by rw [← e]; exact hs)), rfl⟩⟩
/-- The block of a row gets a label. -/
def setLab (lab : Nat → Nat) (v : Value) (l : Nat) : Nat → Nat := fun b => if v.ownBlock = some b then l else lab b
theorem Kept.append {w w' : World} {v v' : Value} {lab : Nat → Nat} {l : Nat} {S : Nat → Prop} (hg : w.grownBy w' v.ownBlock) (hf : Fresh w v v') (hl : ∀ g, v.ownBlock = some g → lab g = l) (hS : ¬ S l) : Kept w w' lab (setLab lab v' l) S := by
  refine ⟨hg.size, fun b hb hs => ?_⟩
  have hne : some b ≠ v.ownBlock := fun e => hS (by rw [← hl b e.symm]; exact hs)
  refine ⟨hg.block b hb hne, ?_⟩
  unfold setLab
  rw [if_neg]
  intro e
  rcases hf with h | ⟨g, h, h2⟩
  · rw [h] at e; exact hne e.symm
  · rw [h] at e; injection e with e; omega

/-- A node's three cells, in a block that stands for ever. -/
def NdL (w : World) (lab : Nat → Nat) (ao : Option Addr) (i : Nat) (t : ByteArray) (l : Value) (p : Nat) : Prop :=
  ∃ b off, ao = some ⟨b, off, none⟩ ∧ b < w.heap.size ∧ lab b = 0 ∧ w.cell? ⟨b, off + i * 3, none⟩ = some (.string t) ∧ w.cell? ⟨b, off + i * 3 + 1, none⟩ = some l ∧ w.cell? ⟨b, off + i * 3 + 2, none⟩ = some (.int .i64 (p : Int))
def FoAtL (w : World) (lab : Nat → Nat) : Fo → Option Addr → Nat → Prop
  | .nil, _, _ => True
  | .word t p r, ao, i => (∃ ao' cap, NdL w lab ao i t (.slice ao' 0 cap) p) ∧ FoAtL w lab r ao (i + 1)
  | .list s p r, ao, i => (∃ ao' cap, NdL w lab ao i ⟨#[]⟩ (.slice ao' s.len cap) p ∧ FoAtL w lab s ao' 0) ∧ FoAtL w lab r ao (i + 1)
def FoCsL (w : World) (lab : Nat → Nat) : Fo → List Value → Prop
  | .nil, cs => cs = []
  | .word t p r, cs => ∃ ao' cap cs', cs = .string t :: .slice ao' 0 cap :: .int .i64 (p : Int) :: cs' ∧ FoCsL w lab r cs'
  | .list s p r, cs => ∃ ao' cap cs', cs = .string ⟨#[]⟩ :: .slice ao' s.len cap :: .int .i64 (p : Int) :: cs' ∧ FoAtL w lab s ao' 0 ∧ FoCsL w lab r cs'
theorem NdL.kept {w w' : World} {lab lab' : Nat → Nat} {ao : Option Addr} {i : Nat} {t : ByteArray} {l : Value} {p : Nat} (h : NdL w lab ao i t l p) (k : Kept w w' lab lab' (· = 0)) : NdL w' lab' ao i t l p := by
  obtain ⟨b, off, h1, h2, h0, h3, h4, h5⟩ := h
  obtain ⟨k1, k2⟩ := k.2 b h2 h0
  exact ⟨b, off, h1, Nat.lt_of_lt_of_le h2 k.1, k2.trans h0, (World.cell?_of_block (a := ⟨b, _, none⟩) k1).trans h3, (World.cell?_of_block (a := ⟨b, _, none⟩) k1).trans h4, (World.cell?_of_block (a := ⟨b, _, none⟩) k1).trans h5⟩
theorem FoAtL.kept {w w' : World} {lab lab' : Nat → Nat} (k : Kept w w' lab lab' (· = 0)) : ∀ {f : Fo} {ao : Option Addr} {i : Nat}, FoAtL w lab f ao i → FoAtL w' lab' f ao i
  | .nil, _, _, _ => trivial
  | .word _ _ _, _, _, ⟨⟨ao', cap, h1⟩, h2⟩ => ⟨⟨ao', cap, h1.kept k⟩, FoAtL.kept k h2⟩
  | .list _ _ _, _, _, ⟨⟨ao', cap, h1, h3⟩, h2⟩ => ⟨⟨ao', cap, h1.kept k, FoAtL.kept k h3⟩, FoAtL.kept k h2⟩
theorem FoCsL.kept {w w' : World} {lab lab' : Nat → Nat} (k : Kept w w' lab lab' (· = 0)) : ∀ {f : Fo} {cs : List Value}, FoCsL w lab f cs → FoCsL w' lab' f cs
  | .nil, _, h => h
  | .word _ _ _, _, ⟨ao', cap, cs', h1, h2⟩ => ⟨ao', cap, cs', h1, FoCsL.kept k h2⟩
  | .list _ _ _, _, ⟨ao', cap, cs', h1, h3, h2⟩ => ⟨ao', cap, cs', h1, FoAtL.kept k h3, FoCsL.kept k h2⟩
theorem NdL.plain {w : World} {lab : Nat → Nat} {ao : Option Addr} {i : Nat} {t : ByteArray} {l : Value} {p : Nat} (h : NdL w lab ao i t l p) : NdAt w ao i t l p := by
  obtain ⟨b, off, h1, h2, _, h3, h4, h5⟩ := h
  exact ⟨b, off, h1, h2, h3, h4, h5⟩
theorem FoAtL.plain {w : World} {lab : Nat → Nat} : ∀ {f : Fo} {ao : Option Addr} {i : Nat}, FoAtL w lab f ao i → FoAt w f ao i
  | .nil, _, _, _ => trivial
  | .word _ _ _, _, _, ⟨⟨ao', cap, h1⟩, h2⟩ => ⟨⟨ao', cap, h1.plain⟩, FoAtL.plain h2⟩
  | .list _ _ _, _, _, ⟨⟨ao', cap, h1, h3⟩, h2⟩ => ⟨⟨ao', cap, h1.plain, FoAtL.plain h3⟩, FoAtL.plain h2⟩
theorem FoCsL.plain {w : World} {lab : Nat → Nat} : ∀ {f : Fo} {cs : List Value}, FoCsL w lab f cs → FoCs w f cs
  | .nil, _, h => h
  | .word _ _ _, _, ⟨ao', cap, cs', h1, h2⟩ => ⟨ao', cap, cs', h1, FoCsL.plain h2⟩
  | .list _ _ _, _, ⟨ao', cap, cs', h1, h3, h2⟩ => ⟨ao', cap, cs', h1, FoAtL.plain h3, FoCsL.plain h2⟩
theorem FoCsL.app {w : World} {lab : Nat → Nat} {g : Fo} {ds : List Value} (hg : FoCsL w lab g ds) : ∀ {f : Fo} {cs : List Value}, FoCsL w lab f cs → FoCsL w lab (f.app g) (cs ++ ds)
  | .nil, _, h => by rw [show _ = [] from h]; exact hg
  | .word _ _ _, _, ⟨ao', cap, cs', h1, h2⟩ => ⟨ao', cap, cs' ++ ds, by rw [h1]; rfl, FoCsL.app hg h2⟩
  | .list _ _ _, _, ⟨ao', cap, cs', h1, h3, h2⟩ => ⟨ao', cap, cs' ++ ds, by rw [h1]; rfl, h3, FoCsL.app hg h2⟩
theorem foAtL_of_cells {w : World} {lab : Nat → Nat} {b off : Nat} (hb : b < w.heap.size) (h0 : lab b = 0) : ∀ {f : Fo} {cs : List Value} {i : Nat}, FoCsL w lab f cs → (∀ j u, cs[j]? = some u → w.cell? ⟨b, off + (i * 3 + j), none⟩ = some u) → FoAtL w lab f (some ⟨b, off, none⟩) i
  | .nil, _, _, _, _ => trivial
  | .word t p r, cs, i, ⟨ao', cap, cs', h1, h2⟩, hc => by
    rw [h1] at hc
    refine ⟨⟨ao', cap, b, off, rfl, hb, h0, hc 0 _ rfl, hc 1 _ rfl, hc 2 _ rfl⟩, foAtL_of_cells hb h0 h2 fun j u hj => ?_⟩
    have := hc (j + 3) u (by simpa using hj)
    rw [show off + (i * 3 + (j + 3)) = off + ((i + 1) * 3 + j) by omega] at this
    exact this
  | .list s p r, cs, i, ⟨ao', cap, cs', h1, h3, h2⟩, hc => by
    rw [h1] at hc
    refine ⟨⟨ao', cap, ⟨b, off, rfl, hb, h0, hc 0 _ rfl, hc 1 _ rfl, hc 2 _ rfl⟩, h3⟩, foAtL_of_cells hb h0 h2 fun j u hj => ?_⟩
    have := hc (j + 3) u (by simpa using hj)
    rw [show off + (i * 3 + (j + 3)) = off + ((i + 1) * 3 + j) by omega] at this
    exact this
theorem foAtL_of_owns {w : World} {lab : Nat → Nat} {base : Nat} {T : TypeId} {v : Value} {n : Nat} {cs : List Value} {f : Fo} (h : w.ownsRow base T 3 v n cs) (hf : FoCsL w lab f cs) (h0 : ∀ g, v.ownBlock = some g → lab g = 0) : ∃ ao cap, v = .slice ao f.len cap ∧ FoAtL w lab f ao 0 := by
  have hl := hf.plain.len
  have hn : n = f.len := by have := h.1; omega
  rcases h.2 with ⟨rfl, hz⟩ | ⟨g, c, cur, rfl, hb, hg, _⟩
  · refine ⟨none, 0, by rw [← hn, hz], ?_⟩
    cases f with
    | nil => trivial
    | word t p r => rw [hn] at hz; simp [Fo.len] at hz
    | list s p r => rw [hn] at hz; simp [Fo.len] at hz
  · refine ⟨some ⟨g, 0, none⟩, c, by rw [← hn], foAtL_of_cells (Array.getElem?_eq_some_iff.1 hg).1 (h0 g rfl) hf fun j u hj => ?_⟩
    have := h.cells (g := g) rfl j u hj
    rw [addr_add'] at this
    rw [show 0 + (0 * 3 + j) = 0 + j by omega]
    exact this
theorem owns_same {w w' : World} {base : Nat} {e : TypeId} {size : Nat} {v : Value} {n : Nat} {xs : List Value} (h : w.ownsRow base e size v n xs) (hb : ∀ g, v.ownBlock = some g → w'.heap[g]? = w.heap[g]?) : w'.ownsRow base e size v n xs := by
  refine ⟨h.1, ?_⟩
  rcases h.2 with hn | ⟨g, cap, cur, rfl, hbg, hg, rest⟩
  · exact .inl hn
  · exact .inr ⟨g, cap, cur, rfl, hbg, (hb g rfl).trans hg, rest⟩

/-- A row that grows, with its label. -/
def Row (w : World) (B : Nat) (lab : Nat → Nat) (l : Nat) (v : Value) (f : Fo) : Prop :=
  ∃ cs, w.ownsRow B 39 3 v f.len cs ∧ FoCsL w lab f cs ∧ ∀ g, v.ownBlock = some g → lab g = l
theorem Row.kept {w w' : World} {B : Nat} {lab lab' : Nat → Nat} {l : Nat} {v : Value} {f : Fo} (h : Row w B lab l v f) (k : Kept w w' lab lab' (fun x => x = 0 ∨ x = l)) : Row w' B lab' l v f := by
  obtain ⟨cs, h1, h2, h3⟩ := h
  refine ⟨cs, owns_same h1 fun g hg => (k.2 g (h1.lt g hg).2 (Or.inr (h3 g hg))).1, h2.kept (k.sub fun _ => Or.inl), fun g hg => ?_⟩
  rw [(k.2 g (h1.lt g hg).2 (Or.inr (h3 g hg))).2]
  exact h3 g hg
theorem Row.nil (w : World) (B : Nat) (lab : Nat → Nat) (l : Nat) : Row w B lab l (.slice none 0 0) .nil := ⟨[], World.ownsRow_nil _ _ _ _, rfl, fun g hg => by simp [Value.ownBlock] at hg⟩
end Go.Proofs.YtlblhlnpmdfblaaDoor
