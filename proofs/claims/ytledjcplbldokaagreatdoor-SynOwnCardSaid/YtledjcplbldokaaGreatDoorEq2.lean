/- A value that is a type, an expression, an alternative, a constructor, a data, a definition. No conditions. -/
import Derived.Test.YtledjcplbldokaaGreatDoorEq1
import Derived.Deep.RegionHeld3
import Derived.Deep.DrawnRows
namespace Go.Proofs.YtledjcplbldokaaGreatDoor
open Go.ChangeShapes Go.WideShapes Go.ChangeAt Go.RowKit
attribute [local go_sem ↓] Go.wp_at_zero Go.wp_at_succ


theorem box2a (w : World) (cs ds : Array Value) (t u : TypeId) (j : Nat) (v : Value) (h : cs[j]? = some v) : ((w.alloc (.cells cs t)).alloc (.cells ds u)).cell? ⟨w.heap.size, j, none⟩ = some v := by
  rw [((Below.refl _ (w.alloc (.cells cs t))).alloc (Nat.le_refl _) (.cells ds u)).cell (p := ⟨w.heap.size, j, none⟩) (by simp), cell_of_row _ w.heap.size j _ _ _ (heap_alloc_new w _)]
  exact h
theorem box2b (w : World) (cs ds : Array Value) (t u : TypeId) (j : Nat) (v : Value) (h : ds[j]? = some v) : ((w.alloc (.cells cs t)).alloc (.cells ds u)).cell? ⟨w.heap.size + 1, j, none⟩ = some v := by
  have hr := heap_alloc_new (w.alloc (.cells cs t)) (.cells ds u)
  have hs : (w.alloc (.cells cs t)).heap.size = w.heap.size + 1 := by simp
  rw [hs] at hr
  rw [cell_of_row _ (w.heap.size + 1) j _ _ _ hr]
  exact h
/-- The value is the type, the expression, .. (as they lie in w). -/
def TyV (w : World) (t : Ty) (v : Value) : Prop := ∃ nm args n a c, t = .node nm args .nil ∧ v = .agg #[.string nm, .slice a n c] ∧ nm.size ≤ reach ∧ SlAt w (.slice a n c) args.len fun b o => TyIn w args b o 0
def ExV (w : World) (e : Ex) (v : Value) : Prop := ∃ op nm num names L alts n1 a1 c1 n2 a2 c2 n3 a3 c3, e = .expr op nm num names L alts .nil ∧ v = .agg #[.int .i64 op, .string nm, .int .i64 num, .slice a1 n1 c1, .slice a2 n2 c2, .slice a3 n3 c3] ∧ wf64 op ∧ wf64 num ∧ nm.size ≤ reach ∧ L.wf true ∧ alts.wf false ∧
  (SlAt w (.slice a1 n1 c1) names.length fun b o => TxIn w names b o) ∧ (SlAt w (.slice a2 n2 c2) L.len fun b o => ExIn w L b o 0) ∧ (SlAt w (.slice a3 n3 c3) alts.len fun b o => ExIn w alts b o 0)
def AlV (w : World) (e : Ex) (v : Value) : Prop := ∃ take anm anum anames ae n0 a0 c0 op nm num n1 a1 c1 n2 a2 c2 n3 a3 c3, e = .alt take anm anum anames ae .nil ∧ v = .agg #[.int .i64 take, .string anm, .int .i64 anum, .slice a0 n0 c0, .int .i64 op, .string nm, .int .i64 num, .slice a1 n1 c1, .slice a2 n2 c2, .slice a3 n3 c3] ∧ wf64 take ∧ wf64 anum ∧ anm.size ≤ reach ∧
  (SlAt w (.slice a0 n0 c0) anames.length fun b o => TxIn w anames b o) ∧ ExV w ae (.agg #[.int .i64 op, .string nm, .int .i64 num, .slice a1 n1 c1, .slice a2 n2 c2, .slice a3 n3 c3])
theorem TyV.below {w w' : World} (hb : Below w.heap.size w w') {t : Ty} {v : Value} (h : TyV w t v) : TyV w' t v := by
  obtain ⟨nm, args, n, a, c, h1, h2, h3, h4⟩ := h
  exact ⟨nm, args, n, a, c, h1, h2, h3, h4.mono hb.size fun _ _ p q => TyIn.below hb p q⟩
theorem ExV.below {w w' : World} (hb : Below w.heap.size w w') {e : Ex} {v : Value} (h : ExV w e v) : ExV w' e v := by
  obtain ⟨op, nm, num, names, L, alts, n1, a1, c1, n2, a2, c2, n3, a3, c3, h1, h2, k1, k2, h3, h4, h5, h6, h7, h8⟩ := h
  exact ⟨op, nm, num, names, L, alts, n1, a1, c1, n2, a2, c2, n3, a3, c3, h1, h2, k1, k2, h3, h4, h5, h6.mono hb.size fun _ _ p q => TxIn.below hb p q, h7.mono hb.size fun _ _ p q => ExIn.below hb p q, h8.mono hb.size fun _ _ p q => ExIn.below hb p q⟩
theorem AlV.below {w w' : World} (hb : Below w.heap.size w w') {e : Ex} {v : Value} (h : AlV w e v) : AlV w' e v := by
  obtain ⟨take, anm, anum, anames, ae, n0, a0, c0, op, nm, num, n1, a1, c1, n2, a2, c2, n3, a3, c3, h1, h2, k1, k2, h3, h4, h5⟩ := h
  exact ⟨take, anm, anum, anames, ae, n0, a0, c0, op, nm, num, n1, a1, c1, n2, a2, c2, n3, a3, c3, h1, h2, k1, k2, h3, h4.mono hb.size fun _ _ p q => TxIn.below hb p q, h5.below hb⟩
/-- The first of a forest in memory. -/
theorem ty_first {w : World} {nm : ByteArray} {args r : Ty} {b o i : Nat} (h : TyIn w (.node nm args r) b o i) : ∃ n1 a1 c1, w.cell? ⟨b, o + i * 2, none⟩ = some (.string nm) ∧ w.cell? ⟨b, o + i * 2 + 1, none⟩ = some (.slice a1 n1 c1) ∧ TyV w (.node nm args .nil) (.agg #[.string nm, .slice a1 n1 c1]) ∧ TyIn w r b o (i + 1) := by
  obtain ⟨h1, v, h2, h3, h4, h5⟩ := tyIn_cells h
  obtain ⟨n, a, c, -, rfl⟩ := sl_form h4
  exact ⟨n, a, c, h2, h3, ⟨nm, args, n, a, c, rfl, rfl, h1, h4⟩, h5⟩
theorem ex_first {w : World} {op : Int} {nm : ByteArray} {num : Int} {names : List ByteArray} {L alts r : Ex} {b o i : Nat} {k : Bool} (hw : (Ex.expr op nm num names L alts r).wf k) (h : ExIn w (.expr op nm num names L alts r) b o i) : ∃ n1 a1 c1 n2 a2 c2 n3 a3 c3, w.cell? ⟨b, o + i * 6, none⟩ = some (.int .i64 op) ∧ w.cell? ⟨b, o + i * 6 + 1, none⟩ = some (.string nm) ∧ w.cell? ⟨b, o + i * 6 + 2, none⟩ = some (.int .i64 num) ∧ w.cell? ⟨b, o + i * 6 + 3, none⟩ = some (.slice a1 n1 c1) ∧ w.cell? ⟨b, o + i * 6 + 4, none⟩ = some (.slice a2 n2 c2) ∧ w.cell? ⟨b, o + i * 6 + 5, none⟩ = some (.slice a3 n3 c3) ∧
    ExV w (.expr op nm num names L alts .nil) (.agg #[.int .i64 op, .string nm, .int .i64 num, .slice a1 n1 c1, .slice a2 n2 c2, .slice a3 n3 c3]) ∧ ExIn w r b o (i + 1) := by
  obtain ⟨⟨h1, h2, h3, k1, k2, k3, ⟨v, g1, g2⟩, ⟨v', g3, g4⟩, ⟨v'', g5, g6⟩⟩, h5⟩ := h
  obtain ⟨n1, a1, c1, -, rfl⟩ := sl_form g2
  obtain ⟨n2, a2, c2, -, rfl⟩ := sl_form g4
  obtain ⟨n3, a3, c3, -, rfl⟩ := sl_form g6
  exact ⟨n1, a1, c1, n2, a2, c2, n3, a3, c3, h1, h2, h3, g1, g3, g5, ⟨op, nm, num, names, L, alts, n1, a1, c1, n2, a2, c2, n3, a3, c3, rfl, rfl, k1, k3, k2, (ex_wf hw).1, (ex_wf hw).2.1, g2, g4, g6⟩, h5⟩
theorem al_first {w : World} {take : Int} {anm : ByteArray} {anum : Int} {anames : List ByteArray} {ae r : Ex} {b o i : Nat} {k : Bool} (hw : (Ex.alt take anm anum anames ae r).wf k) (h : ExIn w (.alt take anm anum anames ae r) b o i) : ∃ n0 a0 c0 op nm num n1 a1 c1 n2 a2 c2 n3 a3 c3, w.cell? ⟨b, o + i * 10, none⟩ = some (.int .i64 take) ∧ w.cell? ⟨b, o + i * 10 + 1, none⟩ = some (.string anm) ∧ w.cell? ⟨b, o + i * 10 + 2, none⟩ = some (.int .i64 anum) ∧ w.cell? ⟨b, o + i * 10 + 3, none⟩ = some (.slice a0 n0 c0) ∧ w.cell? ⟨b, o + i * 10 + 4, none⟩ = some (.int .i64 op) ∧ w.cell? ⟨b, o + i * 10 + 5, none⟩ = some (.string nm) ∧ w.cell? ⟨b, o + i * 10 + 6, none⟩ = some (.int .i64 num) ∧ w.cell? ⟨b, o + i * 10 + 7, none⟩ = some (.slice a1 n1 c1) ∧ w.cell? ⟨b, o + i * 10 + 8, none⟩ = some (.slice a2 n2 c2) ∧ w.cell? ⟨b, o + i * 10 + 9, none⟩ = some (.slice a3 n3 c3) ∧
    AlV w (.alt take anm anum anames ae .nil) (.agg #[.int .i64 take, .string anm, .int .i64 anum, .slice a0 n0 c0, .int .i64 op, .string nm, .int .i64 num, .slice a1 n1 c1, .slice a2 n2 c2, .slice a3 n3 c3]) ∧ ExIn w r b o (i + 1) := by
  obtain ⟨⟨h1, h2, h3, k1, k2, k3, ⟨v, g1, g2⟩, g3⟩, h5⟩ := h
  obtain ⟨hwe, hle, -⟩ := al_wf hw
  obtain ⟨op, nm, num, names, L, alts, rfl⟩ := one_expr hwe hle
  obtain ⟨n0, a0, c0, -, rfl⟩ := sl_form g2
  obtain ⟨n1, a1, c1, n2, a2, c2, n3, a3, c3, e0, e1, e2, e3, e4, e5, e6, -⟩ := ex_first hwe g3
  simp only [Nat.zero_mul, Nat.add_zero] at e0 e1 e2 e3 e4 e5
  exact ⟨n0, a0, c0, op, nm, num, n1, a1, c1, n2, a2, c2, n3, a3, c3, h1, h2, h3, g1, e0, e1, e2, e3, e4, e5, ⟨take, anm, anum, anames, _, n0, a0, c0, op, nm, num, n1, a1, c1, n2, a2, c2, n3, a3, c3, rfl, rfl, k1, k3, k2, g2, e6⟩, h5⟩
theorem Ty.eq_cons {nm : ByteArray} {args r : Ty} {nm' : ByteArray} {args' r' : Ty} : (Ty.node nm args r).eq (.node nm' args' r') = ((Ty.node nm args .nil).eq (.node nm' args' .nil) && r.eq r') := by simp [Ty.eq]
theorem Ex.eq_cons {op : Int} {nm : ByteArray} {num : Int} {names : List ByteArray} {L alts r : Ex} {op' : Int} {nm' : ByteArray} {num' : Int} {names' : List ByteArray} {L' alts' r' : Ex} : (Ex.expr op nm num names L alts r).eq (.expr op' nm' num' names' L' alts' r') = ((Ex.expr op nm num names L alts .nil).eq (.expr op' nm' num' names' L' alts' .nil) && r.eq r') := by simp [Ex.eq]
theorem Ex.eq_cons' {op : Int} {nm : ByteArray} {num : Int} {names : List ByteArray} {e r : Ex} {op' : Int} {nm' : ByteArray} {num' : Int} {names' : List ByteArray} {e' r' : Ex} : (Ex.alt op nm num names e r).eq (.alt op' nm' num' names' e' r') = ((Ex.alt op nm num names e .nil).eq (.alt op' nm' num' names' e' .nil) && r.eq r') := by simp [Ex.eq]
end Go.Proofs.YtledjcplbldokaaGreatDoor
