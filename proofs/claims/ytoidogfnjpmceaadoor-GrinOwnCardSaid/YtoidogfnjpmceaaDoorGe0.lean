/- When functions of steps are the same, as plain data. No conditions. -/
import Derived.Test.YtoidogfnjpmceaaDoorMs2
namespace Go.Proofs.YtoidogfnjpmceaaDoor
open Go.ChangeShapes Go.WideShapes Go.ChangeAt Go.RowKit

def txEq : List ByteArray → List ByteArray → Bool
  | [], [] => true
  | x :: xs, y :: ys => x.toList == y.toList && txEq xs ys
  | _, _ => false
def tgEq (t t' : Tg) : Bool := t.k == t'.k && (t.s.toList == t'.s.toList && t.n == t'.n)
def vlE (x y : Vl) : Bool := x.k == y.k && (x.s.toList == y.s.toList && x.n == y.n)
def vlEq : List Vl → List Vl → Bool
  | [], [] => true
  | x :: xs, y :: ys => vlE x y && vlEq xs ys
  | _, _ => false
def St.eq : St → St → Bool
  | .nil, .nil => true
  | .step op to nm t vals alts n r, .step op' to' nm' t' vals' alts' n' r' => (op == op' && (to.toList == to'.toList && (nm.toList == nm'.toList && (tgEq t t' && (n == n' && (vlEq vals vals' && alts.eq alts')))))) && r.eq r'
  | .br take t n s r, .br take' t' n' s' r' => (take == take' && (tgEq t t' && (n == n' && s.eq s'))) && r.eq r'
  | _, _ => false
def fnE (x y : Fn) : Bool := x.nm.toList == y.nm.toList && (txEq x.params y.params && x.steps.eq y.steps)
def fnEq : List Fn → List Fn → Bool
  | [], [] => true
  | x :: xs, y :: ys => fnE x y && fnEq xs ys
  | _, _ => false

theorem txEq_refl : ∀ l, txEq l l = true
  | [] => rfl
  | x :: xs => by simp [txEq, txEq_refl xs]
theorem tgEq_refl (t : Tg) : tgEq t t = true := by simp [tgEq]
theorem vlEq_refl : ∀ l, vlEq l l = true
  | [] => rfl
  | x :: xs => by simp [vlEq, vlE, vlEq_refl xs]
theorem St.eq_refl : ∀ f : St, f.eq f = true
  | .nil => rfl
  | .step _ _ _ t vals alts _ r => by simp [St.eq, tgEq_refl t, vlEq_refl vals, alts.eq_refl, r.eq_refl]
  | .br _ t _ s r => by simp [St.eq, tgEq_refl t, s.eq_refl, r.eq_refl]
theorem fnEq_refl : ∀ l, fnEq l l = true
  | [] => rfl
  | x :: xs => by simp [fnEq, fnE, txEq_refl, x.steps.eq_refl, fnEq_refl xs]
theorem txEq_len : ∀ {l l' : List ByteArray}, txEq l l' = true → l.length = l'.length
  | [], [], _ => rfl
  | _ :: xs, _ :: ys, h => by simp only [txEq, Bool.and_eq_true] at h; simp [txEq_len h.2]
  | [], _ :: _, h => by simp [txEq] at h
  | _ :: _, [], h => by simp [txEq] at h
theorem vlEq_len : ∀ {l l' : List Vl}, vlEq l l' = true → l.length = l'.length
  | [], [], _ => rfl
  | _ :: xs, _ :: ys, h => by simp only [vlEq, Bool.and_eq_true] at h; simp [vlEq_len h.2]
  | [], _ :: _, h => by simp [vlEq] at h
  | _ :: _, [], h => by simp [vlEq] at h
theorem fnEq_len : ∀ {l l' : List Fn}, fnEq l l' = true → l.length = l'.length
  | [], [], _ => rfl
  | _ :: xs, _ :: ys, h => by simp only [fnEq, Bool.and_eq_true] at h; simp [fnEq_len h.2]
  | [], _ :: _, h => by simp [fnEq] at h
  | _ :: _, [], h => by simp [fnEq] at h
theorem St.eq_len : ∀ {f g : St}, f.eq g = true → f.len = g.len
  | .nil, .nil, _ => rfl
  | .step _ _ _ _ _ _ _ r, .step _ _ _ _ _ _ _ r', h => by simp only [St.eq, Bool.and_eq_true] at h; simp [St.len, St.eq_len h.2]
  | .br _ _ _ _ r, .br _ _ _ _ r', h => by simp only [St.eq, Bool.and_eq_true] at h; simp [St.len, St.eq_len h.2]
  | .nil, .step .., h => by simp [St.eq] at h
  | .nil, .br .., h => by simp [St.eq] at h
  | .step .., .nil, h => by simp [St.eq] at h
  | .br .., .nil, h => by simp [St.eq] at h
  | .step .., .br .., h => by simp [St.eq] at h
  | .br .., .step .., h => by simp [St.eq] at h
theorem St.eq_cons {op : Int} {to nm : ByteArray} {t : Tg} {vals : List Vl} {alts : St} {n : Int} {r : St} {op' : Int} {to' nm' : ByteArray} {t' : Tg} {vals' : List Vl} {alts' : St} {n' : Int} {r' : St} :
    (St.step op to nm t vals alts n r).eq (.step op' to' nm' t' vals' alts' n' r') = ((St.step op to nm t vals alts n .nil).eq (.step op' to' nm' t' vals' alts' n' .nil) && r.eq r') := by simp [St.eq]
theorem St.eq_cons' {take : Int} {t : Tg} {n : Int} {s r : St} {take' : Int} {t' : Tg} {n' : Int} {s' r' : St} :
    (St.br take t n s r).eq (.br take' t' n' s' r') = ((St.br take t n s .nil).eq (.br take' t' n' s' .nil) && r.eq r') := by simp [St.eq]
theorem drop_two {α : Type} {l : List α} {i : Nat} (h : i < l.length) : l.drop i = l[i] :: l.drop (i + 1) := List.drop_eq_getElem_cons h

/-! ### A value that is a tag, a value, a step, a branch, a function -/
def StV (w : World) (e : St) (v : Value) : Prop := ∃ op to nm t vals alts num a1 n1 c1 a2 n2 c2, e = .step op to nm t vals alts num .nil ∧ v = .agg #[.int .i64 op, .string to, .string nm, .int .i64 t.k, .string t.s, .int .i64 t.n, .slice a1 n1 c1, .slice a2 n2 c2, .int .i64 num] ∧
  wf64 op ∧ to.size ≤ reach ∧ nm.size ≤ reach ∧ wf64 t.k ∧ t.s.size ≤ reach ∧ wf64 t.n ∧ wf64 num ∧ alts.wf false ∧ (SlAt w (.slice a1 n1 c1) vals.length fun b o => VlIn w vals b o) ∧ SlAt w (.slice a2 n2 c2) alts.len fun b o => StIn w alts b o 0
def BrV (w : World) (e : St) (v : Value) : Prop := ∃ take t num steps a1 n1 c1, e = .br take t num steps .nil ∧ v = .agg #[.int .i64 take, .int .i64 t.k, .string t.s, .int .i64 t.n, .int .i64 num, .slice a1 n1 c1] ∧
  wf64 take ∧ wf64 t.k ∧ t.s.size ≤ reach ∧ wf64 t.n ∧ wf64 num ∧ steps.wf true ∧ SlAt w (.slice a1 n1 c1) steps.len fun b o => StIn w steps b o 0
def FnV (w : World) (x : Fn) (v : Value) : Prop := ∃ a1 n1 c1 a2 n2 c2, v = .agg #[.string x.nm, .slice a1 n1 c1, .slice a2 n2 c2] ∧ x.nm.size ≤ reach ∧ x.steps.wf true ∧ (SlAt w (.slice a1 n1 c1) x.params.length fun b o => TxIn w x.params b o) ∧ SlAt w (.slice a2 n2 c2) x.steps.len fun b o => StIn w x.steps b o 0
theorem StV.below {w w' : World} (hb : Below w.heap.size w w') {e : St} {v : Value} (h : StV w e v) : StV w' e v := by
  obtain ⟨op, to, nm, t, vals, alts, num, a1, n1, c1, a2, n2, c2, h1, h2, k1, k2, k3, k4, k5, k6, k7, k8, h3, h4⟩ := h
  exact ⟨op, to, nm, t, vals, alts, num, a1, n1, c1, a2, n2, c2, h1, h2, k1, k2, k3, k4, k5, k6, k7, k8, h3.mono hb.size fun _ _ p q => VlIn.below hb p q, h4.mono hb.size fun _ _ p q => StIn.below hb p q⟩
theorem BrV.below {w w' : World} (hb : Below w.heap.size w w') {e : St} {v : Value} (h : BrV w e v) : BrV w' e v := by
  obtain ⟨take, t, num, steps, a1, n1, c1, h1, h2, k1, k2, k3, k4, k5, k6, h3⟩ := h
  exact ⟨take, t, num, steps, a1, n1, c1, h1, h2, k1, k2, k3, k4, k5, k6, h3.mono hb.size fun _ _ p q => StIn.below hb p q⟩
theorem FnV.below {w w' : World} (hb : Below w.heap.size w w') {x : Fn} {v : Value} (h : FnV w x v) : FnV w' x v := by
  obtain ⟨a1, n1, c1, a2, n2, c2, h1, h2, h3, h4, h5⟩ := h
  exact ⟨a1, n1, c1, a2, n2, c2, h1, h2, h3, h4.mono hb.size fun _ _ p q => TxIn.below hb p q, h5.mono hb.size fun _ _ p q => StIn.below hb p q⟩
theorem slv_form {w : World} {v : Value} {n : Nat} {P : Nat → Nat → Prop} (h : SlAt w v n P) : ∃ m a c, m = n ∧ v = .slice a m c := by
  obtain ⟨_, a, c, rfl, _⟩ := h
  exact ⟨n, a, c, rfl, rfl⟩
/-- The first of a forest in memory. -/
theorem st_first {w : World} {op : Int} {to nm : ByteArray} {t : Tg} {vals : List Vl} {alts : St} {num : Int} {r : St} {b o i : Nat} {k : Bool} (hw : (St.step op to nm t vals alts num r).wf k) (h : StIn w (.step op to nm t vals alts num r) b o i) : ∃ a1 n1 c1 a2 n2 c2,
    w.cell? ⟨b, o + i * 9, none⟩ = some (.int .i64 op) ∧ w.cell? ⟨b, o + i * 9 + 1, none⟩ = some (.string to) ∧ w.cell? ⟨b, o + i * 9 + 2, none⟩ = some (.string nm) ∧ w.cell? ⟨b, o + i * 9 + 3, none⟩ = some (.int .i64 t.k) ∧ w.cell? ⟨b, o + i * 9 + 4, none⟩ = some (.string t.s) ∧ w.cell? ⟨b, o + i * 9 + 5, none⟩ = some (.int .i64 t.n) ∧
    w.cell? ⟨b, o + i * 9 + 6, none⟩ = some (.slice a1 n1 c1) ∧ w.cell? ⟨b, o + i * 9 + 7, none⟩ = some (.slice a2 n2 c2) ∧ w.cell? ⟨b, o + i * 9 + 8, none⟩ = some (.int .i64 num) ∧
    StV w (.step op to nm t vals alts num .nil) (.agg #[.int .i64 op, .string to, .string nm, .int .i64 t.k, .string t.s, .int .i64 t.n, .slice a1 n1 c1, .slice a2 n2 c2, .int .i64 num]) ∧ StIn w r b o (i + 1) := by
  obtain ⟨⟨h1, h2, h3, ⟨t1, t2, t3, t4, t5, t6⟩, k1, k2, k3, k4, ⟨v, g1, g2⟩, ⟨v', g3, g4⟩, h5⟩, h6⟩ := h
  obtain ⟨n1, a1, c1, -, rfl⟩ := slv_form g2
  obtain ⟨n2, a2, c2, -, rfl⟩ := slv_form g4
  exact ⟨a1, n1, c1, a2, n2, c2, h1, h2, h3, t1, t2, t3, g1, g3, h5, ⟨op, to, nm, t, vals, alts, num, a1, n1, c1, a2, n2, c2, rfl, rfl, k1, k2, k3, t4, t5, t6, k4, (stStep_wf hw).1, g2, g4⟩, h6⟩
theorem br_first {w : World} {take : Int} {t : Tg} {num : Int} {s r : St} {b o i : Nat} {k : Bool} (hw : (St.br take t num s r).wf k) (h : StIn w (.br take t num s r) b o i) : ∃ a1 n1 c1,
    w.cell? ⟨b, o + i * 6, none⟩ = some (.int .i64 take) ∧ w.cell? ⟨b, o + i * 6 + 1, none⟩ = some (.int .i64 t.k) ∧ w.cell? ⟨b, o + i * 6 + 2, none⟩ = some (.string t.s) ∧ w.cell? ⟨b, o + i * 6 + 3, none⟩ = some (.int .i64 t.n) ∧ w.cell? ⟨b, o + i * 6 + 4, none⟩ = some (.int .i64 num) ∧ w.cell? ⟨b, o + i * 6 + 5, none⟩ = some (.slice a1 n1 c1) ∧
    BrV w (.br take t num s .nil) (.agg #[.int .i64 take, .int .i64 t.k, .string t.s, .int .i64 t.n, .int .i64 num, .slice a1 n1 c1]) ∧ StIn w r b o (i + 1) := by
  obtain ⟨⟨h1, ⟨t1, t2, t3, t4, t5, t6⟩, h3, k1, k2, ⟨v, g1, g2⟩⟩, h6⟩ := h
  obtain ⟨n1, a1, c1, -, rfl⟩ := slv_form g2
  exact ⟨a1, n1, c1, h1, t1, t2, t3, h3, g1, ⟨take, t, num, s, a1, n1, c1, rfl, rfl, k1, t4, t5, t6, k2, (stBr_wf hw).1, g2⟩, h6⟩
theorem fn_first {w : World} {l : List Fn} {b o i : Nat} (h : FnIn w l b o) (hi : i < l.length) : ∃ a1 n1 c1 a2 n2 c2, w.cell? ⟨b, o + i * 3, none⟩ = some (.string l[i].nm) ∧ w.cell? ⟨b, o + i * 3 + 1, none⟩ = some (.slice a1 n1 c1) ∧ w.cell? ⟨b, o + i * 3 + 2, none⟩ = some (.slice a2 n2 c2) ∧ FnV w l[i] (.agg #[.string l[i].nm, .slice a1 n1 c1, .slice a2 n2 c2]) := by
  obtain ⟨h1, h2, ⟨v, h3, h4⟩, ⟨v', h5, h6, h7⟩⟩ := h i hi
  obtain ⟨n1, a1, c1, -, rfl⟩ := slv_form h4
  obtain ⟨n2, a2, c2, -, rfl⟩ := slv_form h7
  exact ⟨a1, n1, c1, a2, n2, c2, h1, h3, h5, ⟨a1, n1, c1, a2, n2, c2, rfl, h2, h6, h4, h7⟩⟩
theorem box2a (w : World) (cs ds : Array Value) (t u : TypeId) (j : Nat) (v : Value) (h : cs[j]? = some v) : ((w.alloc (.cells cs t)).alloc (.cells ds u)).cell? ⟨w.heap.size, j, none⟩ = some v := by
  rw [((Below.refl _ (w.alloc (.cells cs t))).alloc (Nat.le_refl _) (.cells ds u)).cell (p := ⟨w.heap.size, j, none⟩) (by simp), cell_of_row _ w.heap.size j _ _ _ (heap_alloc_new w _)]
  exact h
theorem box2b (w : World) (cs ds : Array Value) (t u : TypeId) (j : Nat) (v : Value) (h : ds[j]? = some v) : ((w.alloc (.cells cs t)).alloc (.cells ds u)).cell? ⟨w.heap.size + 1, j, none⟩ = some v := by
  have hr := heap_alloc_new (w.alloc (.cells cs t)) (.cells ds u)
  have hs : (w.alloc (.cells cs t)).heap.size = w.heap.size + 1 := by simp
  rw [hs] at hr
  rw [cell_of_row _ (w.heap.size + 1) j _ _ _ hr]
  exact h
end Go.Proofs.YtoidogfnjpmceaaDoor
