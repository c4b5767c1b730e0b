/- A package variable that reads as plain data (numbers, bools, texts, arrays and structs of these) holds just its cells. No conditions but that its type lies closely. -/
import Derived.LaidLaws
import Derived.ChangeArms
import Derived.LaidMore
namespace Go.Proofs.YtoidogfnjpmceaaDoor

/-- The cells of plain data. -/
def flatN {H : Type} : Nat → DataW H → Option (List Value)
  | 0, _ => none
  | _ + 1, .lit (.int k z) => some [.int k z]
  | _ + 1, .lit (.bool b) => some [.bool b]
  | _ + 1, .lit (.string l) => some [.string ⟨l.toArray⟩]
  | n + 1, .agg ps => (ps.mapM (flatN n)).map List.flatten
  | _, _ => none

/-- Its parts lie one behind the other: each part's type, and how many cells it has. -/
def tidyParts (P : Program) (q : TypeId → Bool) : Nat → List (TypeId × Nat) → Option Nat
  | o, [] => some o
  | o, (t, f) :: r => if f = o && q t then tidyParts P q (o + P.cellsOf t) r else none

def tidy (P : Program) : Nat → TypeId → Bool
  | 0, _ => false
  | n + 1, t =>
    match P.underlying t with
    | some .bool => true
    | some (.int _) => true
    | some .string => true
    | some (.struct fs) => decide (tidyParts P (tidy P n) 0 (fs.toList.map fun f => (f.type, f.offset)) = some (P.cellsOf t))
    | some (.array m e) => decide (m * P.cellsOf e = P.cellsOf t) && tidy P n e
    | _ => false

theorem mapM_cons_some {α β : Type} {f : α → Option β} {a : α} {l : List α} {r : List β} (h : (a :: l).mapM f = some r) : ∃ b q, f a = some b ∧ l.mapM f = some q ∧ r = b :: q := by
  simp only [List.mapM_cons, Option.bind_eq_bind, Option.bind_eq_some_iff, Option.pure_def, Option.some.injEq] at h
  obtain ⟨b, hb, q, hq, e⟩ := h
  exact ⟨b, q, hb, hq, e.symm⟩

section
variable {H : Type} {enc : TypeId × Value → H} {P : Program} {w : World} {base : Nat} {sp : Nat → Bool} {held : Bool}

/-- The pieces of a struct, put together. -/
theorem parts_flat (n fuel : Nat) (ih : ∀ (t : TypeId) (cs : List Value) (d : DataW H) (p : List MemPlace) (vs : List Value), tidy P n t = true → flatN n d = some vs → DataW.trod enc P w base sp held fuel t cs = some (d, p) → cs = vs)
    (cs : List Value) : ∀ (fs : List Field) (o e : Nat) (xs : List (DataW H × List MemPlace)) (vss : List (List Value)),
    tidyParts P (tidy P n) o (fs.map fun f => (f.type, f.offset)) = some e → cs.length = e →
    (fs.mapM fun f => DataW.trod enc P w base sp held fuel f.type ((cs.drop f.offset).take (P.cellsOf f.type))) = some xs →
    (xs.map (·.1)).mapM (flatN n) = some vss → cs.drop o = vss.flatten := by
  intro fs
  induction fs with
  | nil =>
    intro o e xs vss h1 h2 h3 h4
    simp [tidyParts] at h1
    simp at h3
    subst h3
    simp at h4
    subst h4
    rw [List.drop_of_length_le (by omega)]
    rfl
  | cons f fs ih2 =>
    intro o e xs vss h1 h2 h3 h4
    obtain ⟨x, xs', hx, hxs, rfl⟩ := mapM_cons_some h3
    obtain ⟨v, vss', hv, hvs, rfl⟩ := mapM_cons_some h4
    simp only [List.map_cons, tidyParts] at h1
    split at h1
    · rename_i hc
      simp only [Bool.and_eq_true, decide_eq_true_eq] at hc
      obtain ⟨ho, ht⟩ := hc
      have e1 := ih f.type _ x.1 x.2 v ht hv hx
      have e2 := ih2 (o + P.cellsOf f.type) e xs' vss' h1 h2 hxs hvs
      rw [List.flatten_cons, ← e1, ← e2, ho, ← List.drop_drop, List.take_append_drop]
    · cases h1

/-- The pieces of an array, put together. -/
theorem rows_flat (n fuel : Nat) (t : TypeId) (ht : tidy P n t = true) (ih : ∀ (t : TypeId) (cs : List Value) (d : DataW H) (p : List MemPlace) (vs : List Value), tidy P n t = true → flatN n d = some vs → DataW.trod enc P w base sp held fuel t cs = some (d, p) → cs = vs)
    (cs : List Value) : ∀ (m o : Nat) (xs : List (DataW H × List MemPlace)) (vss : List (List Value)),
    cs.length = (o + m) * P.cellsOf t →
    ((List.range' o m).mapM fun i => DataW.trod enc P w base sp held fuel t ((cs.drop (i * P.cellsOf t)).take (P.cellsOf t))) = some xs →
    (xs.map (·.1)).mapM (flatN n) = some vss → cs.drop (o * P.cellsOf t) = vss.flatten := by
  intro m
  induction m with
  | zero =>
    intro o xs vss h2 h3 h4
    simp at h3
    subst h3
    simp at h4
    subst h4
    rw [List.drop_of_length_le (by rw [h2]; simp)]
    rfl
  | succ m ih2 =>
    intro o xs vss h2 h3 h4
    rw [List.range'_succ] at h3
    obtain ⟨x, xs', hx, hxs, rfl⟩ := mapM_cons_some h3
    obtain ⟨v, vss', hv, hvs, rfl⟩ := mapM_cons_some h4
    have e1 := ih t _ x.1 x.2 v ht hv hx
    have e2 := ih2 (o + 1) xs' vss' (by rw [h2]; congr 1; omega) hxs hvs
    rw [List.flatten_cons, ← e1, ← e2, Nat.succ_mul, ← List.drop_drop, List.take_append_drop]

theorem trod_flat : ∀ (n fuel : Nat) (t : TypeId) (cs : List Value) (d : DataW H) (p : List MemPlace) (vs : List Value), tidy P n t = true → flatN n d = some vs → DataW.trod enc P w base sp held fuel t cs = some (d, p) → cs = vs := by
  intro n
  induction n with
  | zero => intro fuel t cs d p vs h1 h2 h3; cases h1
  | succ n ih =>
    intro fuel t cs d p vs h1 h2 h3
    cases fuel with
    | zero => cases h3
    | succ fuel =>
      unfold tidy at h1
      split at h1
      · rename_i ht
        obtain ⟨b, rfl, e⟩ := DataW.trod_bool ht h3
        cases e
        simp [flatN] at h2
        exact h2
      · rename_i ht
        obtain ⟨z, rfl, e, _⟩ := DataW.trod_int ht h3
        cases e
        simp [flatN] at h2
        exact h2
      · rename_i ht
        obtain ⟨s, rfl, e, _⟩ := DataW.trod_string ht h3
        cases e
        simp [flatN] at h2
        exact h2
      · rename_i fs ht
        simp only [decide_eq_true_eq] at h1
        simp only [DataW.trod, ht] at h3
        split at h3
        · rename_i hl
          obtain ⟨xs, hm, hx⟩ := Option.map_eq_some_iff.1 h3
          cases hx
          simp only [flatN] at h2
          obtain ⟨vss, hvs, rfl⟩ := Option.map_eq_some_iff.1 h2
          have := parts_flat n fuel (fun t cs d p vs => ih fuel t cs d p vs) cs fs.toList 0 _ xs vss h1 hl hm hvs
          simpa using this
        · cases h3
      · rename_i m e ht
        simp only [Bool.and_eq_true, decide_eq_true_eq] at h1
        obtain ⟨h1, h0⟩ := h1
        simp only [DataW.trod, ht] at h3
        split at h3
        · rename_i hl
          obtain ⟨xs, hm, hx⟩ := Option.map_eq_some_iff.1 h3
          cases hx
          simp only [flatN] at h2
          obtain ⟨vss, hvs, rfl⟩ := Option.map_eq_some_iff.1 h2
          rw [List.range_eq_range'] at hm
          have := rows_flat n fuel e h0 (fun t cs d p vs => ih fuel t cs d p vs) cs m 0 xs vss (by rw [hl, ← h1, Nat.zero_add]) hm hvs
          simpa using this
        · cases h3
      · cases h1
end

/-- FROM THE ROW's CONDITION: the variable stands first on the list. -/
theorem cells_of_head {P : Program} {W : World} {name : String} {D : DataW Unit} {rest : List (String × DataW Unit)} {g n : Nat} {t : TypeId} {vs : List Value}
    (hg : P.globalNamed name = some g) (hty : (P.globals[g]?).map (·.type) = some t) (ht : tidy P n t = true) (hf : flatN n D = some vs)
    (h : laidMet P ((name, D) :: rest) W) : W.var? P name = some vs.toArray := by
  obtain ⟨ps, ⟨g', t', cs, fuel, p, q, hg', ht', hvar, hd, _, _⟩, _⟩ := h
  obtain rfl := Option.some.inj (hg.symm.trans hg')
  obtain rfl := Option.some.inj (hty.symm.trans ht')
  rw [hvar, ← trod_flat n fuel _ _ _ _ vs ht hf hd]
end Go.Proofs.YtoidogfnjpmceaaDoor
