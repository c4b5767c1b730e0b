/- Two texts, one behind the other, and a text in brackets: what they are as nodes; nodes appended to nodes. No conditions. -/
import Derived.Test.YtlblhlnpmdfblaaDoorTree1
import Derived.Laws.AppendOwnNone
namespace Go.Proofs.YtlblhlnpmdfblaaDoor
open Go.RowKit

/-! ### Texts -/
def rep (c : UInt8) (n : Nat) : ByteArray := ⟨(List.replicate n c).toArray⟩
theorem rep_list (c : UInt8) (n : Nat) : (rep c n).data.toList = List.replicate n c := rfl
theorem rep_size (c : UInt8) (n : Nat) : (rep c n).size = n := by rw [Lib.size_eq, rep_list, List.length_replicate]
theorem rep_next (c : UInt8) (n : Nat) : rep c n ++ ⟨#[c]⟩ = rep c (n + 1) := by
  apply ByteArray.ext
  apply Array.toList_inj.1
  rw [ByteArray.data_append, Array.toList_append]
  show List.replicate n c ++ [c] = List.replicate (n + 1) c
  rw [← List.replicate_succ']
theorem wds_opens (n : Nat) : ∀ (p : Nat) (x : List UInt8), wds .gap p (List.replicate n 40 ++ x) = opens p n ++ wds .gap (p + n) x := by
  induction n with
  | zero => intro p x; rfl
  | succ n ih =>
    intro p x
    rw [List.replicate_succ, List.cons_append]
    show (⟨#[40]⟩, p) :: wds .gap (p + 1) (List.replicate n 40 ++ x) = (⟨#[40]⟩, p) :: (opens (p + 1) n ++ wds .gap (p + (n + 1)) x)
    rw [ih, show p + 1 + n = p + (n + 1) by omega]
theorem wds_shuts (n : Nat) : ∀ p : Nat, wds .gap p (List.replicate n 41) = shuts p n := by
  induction n with
  | zero => intro p; rfl
  | succ n ih =>
    intro p
    rw [List.replicate_succ]
    show (⟨#[41]⟩, p) :: wds .gap (p + 1) (List.replicate n 41) = _
    rw [ih]
    rfl
theorem parse_wraps (l : List UInt8) (f : Fo) (n : Nat) (h : parseF l = .ok f) (hd : f.deep + n ≤ 200) : parseF (List.replicate n 40 ++ (l ++ 10 :: List.replicate n 41)) = .ok (wrapF (f.on n) 0 n) := by
  unfold parseF words
  rw [wds_opens, Nat.zero_add, wds_join, wds_shuts]
  have h1 := rdW_on n _ [] .nil f h
  have h2 := wds_on n l .gap 0
  simp only [Ph.on, Nat.zero_add] at h2
  have h3 : rdW [] .nil (wds .gap n l) = .ok (f.on n) := by rw [h2]; exact h1
  exact rdW_wraps _ _ n 0 _ h3 (by rw [Fo.on_deep]; exact hd)
theorem parse_two (l k : List UInt8) (f g : Fo) (h1 : parseF l = .ok f) (h2 : parseF k = .ok g) : parseF (l ++ 10 :: k) = .ok (f.app (g.on (l.length + 1))) := by
  unfold parseF
  rw [words_join, rdW_app _ _ _ _ f h1]
  have h3 := rdW_on (l.length + 1) _ [] .nil g h2
  have h4 := (rdW_pre f _ [] _ _ h3).1 rfl
  have h5 : f.app (Fo.on (l.length + 1) .nil) = f := Fo.app_nil f
  rw [h5] at h4
  exact h4

/-! ### Cells -/
/-- The cells of a row of nodes. -/
def FoCs (w : World) : Fo → List Value → Prop
  | .nil, cs => cs = []
  | .word t p r, cs => ∃ ao' cap cs', cs = .string t :: .slice ao' 0 cap :: .int .i64 (p : Int) :: cs' ∧ FoCs w r cs'
  | .list s p r, cs => ∃ ao' cap cs', cs = .string ⟨#[]⟩ :: .slice ao' s.len cap :: .int .i64 (p : Int) :: cs' ∧ FoAt w s ao' 0 ∧ FoCs w r cs'
theorem FoCs.below {w w' : World} (hb : Below w.heap.size w w') : ∀ {f : Fo} {cs : List Value}, FoCs w f cs → FoCs w' f cs
  | .nil, _, h => h
  | .word _ _ _, _, ⟨ao', cap, cs', h1, h2⟩ => ⟨ao', cap, cs', h1, FoCs.below hb h2⟩
  | .list _ _ _, _, ⟨ao', cap, cs', h1, h3, h2⟩ => ⟨ao', cap, cs', h1, h3.below hb, FoCs.below hb h2⟩
theorem FoCs.app {w : World} {g : Fo} {ds : List Value} (hg : FoCs w g ds) : ∀ {f : Fo} {cs : List Value}, FoCs w f cs → FoCs w (f.app g) (cs ++ ds)
  | .nil, _, h => by rw [show _ = [] from h]; exact hg
  | .word _ _ _, _, ⟨ao', cap, cs', h1, h2⟩ => ⟨ao', cap, cs' ++ ds, by rw [h1]; rfl, FoCs.app hg h2⟩
  | .list _ _ _, _, ⟨ao', cap, cs', h1, h3, h2⟩ => ⟨ao', cap, cs' ++ ds, by rw [h1]; rfl, h3, FoCs.app hg h2⟩
theorem FoCs.len {w : World} : ∀ {f : Fo} {cs : List Value}, FoCs w f cs → cs.length = f.len * 3
  | .nil, _, h => by rw [show _ = [] from h]; rfl
  | .word _ _ _, _, ⟨_, _, cs', h1, h2⟩ => by have := FoCs.len h2; rw [h1]; simp only [List.length_cons, Fo.len]; omega
  | .list _ _ _, _, ⟨_, _, cs', h1, _, h2⟩ => by have := FoCs.len h2; rw [h1]; simp only [List.length_cons, Fo.len]; omega
theorem FoCs.one {w : World} : ∀ {f : Fo} {cs : List Value}, FoCs w f cs → ∀ u ∈ cs, u.oneCell' = true
  | .nil, _, h, u, hu => by rw [show _ = [] from h] at hu; simp at hu
  | .word _ _ _, _, ⟨_, _, cs', h1, h2⟩, u, hu => by
    rw [h1] at hu
    simp only [List.mem_cons] at hu
    rcases hu with rfl | rfl | rfl | hu
    · rfl
    · rfl
    · rfl
    · exact FoCs.one h2 u hu
  | .list _ _ _, _, ⟨_, _, cs', h1, _, h2⟩, u, hu => by
    rw [h1] at hu
    simp only [List.mem_cons] at hu
    rcases hu with rfl | rfl | rfl | hu
    · rfl
    · rfl
    · rfl
    · exact FoCs.one h2 u hu
theorem addr_add' (g o j : Nat) : (⟨g, o, none⟩ : Addr).add j = ⟨g, o + j, none⟩ := by unfold Addr.add; split <;> simp_all
/-- The cells of a forest in memory. -/
theorem FoAt.cells {w : World} : ∀ {f : Fo} {ao : Option Addr} {i : Nat}, FoAt w f ao i → ∃ cs, FoCs w f cs ∧ ∀ ad, ao = some ad → ∀ j u, cs[j]? = some u → w.cell? (ad.add (i * 3 + j)) = some u
  | .nil, _, _, _ => ⟨[], rfl, fun ad _ j u h => by simp at h⟩
  | .word t p r, ao, i, ⟨⟨ao', cap, b, off, h1, _, c0, c1, c2⟩, h2⟩ => by
    obtain ⟨cs, g1, g2⟩ := FoAt.cells h2
    refine ⟨_, ⟨ao', cap, cs, rfl, g1⟩, fun ad had j u hj => ?_⟩
    rw [h1] at had
    injection had with had
    subst had
    rw [addr_add']
    rcases j with _ | _ | _ | j
    · simp only [List.getElem?_cons_zero, Option.some.injEq] at hj; subst hj; rw [Nat.add_zero]; exact c0
    · simp only [List.getElem?_cons_succ, List.getElem?_cons_zero, Option.some.injEq] at hj; subst hj; exact c1
    · simp only [List.getElem?_cons_succ, List.getElem?_cons_zero, Option.some.injEq] at hj; subst hj; exact c2
    · simp only [List.getElem?_cons_succ] at hj
      have := g2 ⟨b, off, none⟩ h1 j u hj
      rw [addr_add'] at this
      rw [show off + (i * 3 + (j + 1 + 1 + 1)) = off + ((i + 1) * 3 + j) by omega]
      exact this
  | .list s p r, ao, i, ⟨⟨ao', cap, ⟨b, off, h1, _, c0, c1, c2⟩, hs⟩, h2⟩ => by
    obtain ⟨cs, g1, g2⟩ := FoAt.cells h2
    refine ⟨_, ⟨ao', cap, cs, rfl, hs, g1⟩, fun ad had j u hj => ?_⟩
    rw [h1] at had
    injection had with had
    subst had
    rw [addr_add']
    rcases j with _ | _ | _ | j
    · simp only [List.getElem?_cons_zero, Option.some.injEq] at hj; subst hj; rw [Nat.add_zero]; exact c0
    · simp only [List.getElem?_cons_succ, List.getElem?_cons_zero, Option.some.injEq] at hj; subst hj; exact c1
    · simp only [List.getElem?_cons_succ, List.getElem?_cons_zero, Option.some.injEq] at hj; subst hj; exact c2
    · simp only [List.getElem?_cons_succ] at hj
      have := g2 ⟨b, off, none⟩ h1 j u hj
      rw [addr_add'] at this
      rw [show off + (i * 3 + (j + 1 + 1 + 1)) = off + ((i + 1) * 3 + j) by omega]
      exact this
/-- Out of its cells, a forest in memory. -/
theorem foAt_of_cells {w : World} {b off : Nat} (hb : b < w.heap.size) : ∀ {f : Fo} {cs : List Value} {i : Nat}, FoCs w f cs → (∀ j u, cs[j]? = some u → w.cell? ⟨b, off + (i * 3 + j), none⟩ = some u) → FoAt w f (some ⟨b, off, none⟩) i
  | .nil, _, _, _, _ => trivial
  | .word t p r, cs, i, ⟨ao', cap, cs', h1, h2⟩, hc => by
    rw [h1] at hc
    refine ⟨⟨ao', cap, b, off, rfl, hb, hc 0 _ rfl, hc 1 _ rfl, hc 2 _ rfl⟩, foAt_of_cells hb h2 fun j u hj => ?_⟩
    have := hc (j + 3) u (by simpa using hj)
    rw [show off + (i * 3 + (j + 3)) = off + ((i + 1) * 3 + j) by omega] at this
    exact this
  | .list s p r, cs, i, ⟨ao', cap, cs', h1, h3, h2⟩, hc => by
    rw [h1] at hc
    refine ⟨⟨ao', cap, ⟨b, off, rfl, hb, hc 0 _ rfl, hc 1 _ rfl, hc 2 _ rfl⟩, h3⟩, foAt_of_cells hb h2 fun j u hj => ?_⟩
    have := hc (j + 3) u (by simpa using hj)
    rw [show off + (i * 3 + (j + 3)) = off + ((i + 1) * 3 + j) by omega] at this
    exact this
theorem foAt_of_owns {w : World} {base : Nat} {T : TypeId} {v : Value} {n : Nat} {cs : List Value} {f : Fo} (h : w.ownsRow base T 3 v n cs) (hf : FoCs w f cs) : ∃ ao cap, v = .slice ao f.len cap ∧ FoAt w f ao 0 := by
  have hl := hf.len
  have hn : n = f.len := by have := h.1; omega
  rcases h.2 with ⟨rfl, h0⟩ | ⟨g, c, cur, rfl, hb, hg, _⟩
  · refine ⟨none, 0, by rw [← hn, h0], ?_⟩
    cases f with
    | nil => trivial
    | word t p r => rw [hn] at h0; simp [Fo.len] at h0
    | list s p r => rw [hn] at h0; simp [Fo.len] at h0
  · refine ⟨some ⟨g, 0, none⟩, c, by rw [← hn], foAt_of_cells (Array.getElem?_eq_some_iff.1 hg).1 hf fun j u hj => ?_⟩
    have := h.cells (g := g) rfl j u hj
    rw [addr_add'] at this
    rw [show 0 + (0 * 3 + j) = 0 + j by omega]
    exact this
theorem infoNode : (Tryd.prog.info? 39).map (fun i => (i.zero, i.size, i.bytes)) = some (some (.agg #[.string ⟨#[]⟩, .slice none 0 0, .int .i64 0]), 3, 48) := by kernel_rfl
end Go.Proofs.YtlblhlnpmdfblaaDoor
