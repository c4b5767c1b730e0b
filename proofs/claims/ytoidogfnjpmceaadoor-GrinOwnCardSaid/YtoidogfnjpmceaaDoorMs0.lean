/- Functions and steps: how many parts, how deep, how long their texts. No conditions. -/
import Derived.Test.YtoidogfnjpmceaaDoorStAt
namespace Go.Proofs.YtoidogfnjpmceaaDoor
open Go.ChangeShapes Go.WideShapes Go.ChangeAt Go.RowKit

def St.cost : St → Nat
  | .nil => 0
  | .step _ _ _ _ vals alts _ r => 1 + vals.length + alts.len + alts.cost + r.cost
  | .br _ _ _ s r => s.cost + r.cost
def St.tall : St → Nat
  | .nil => 0
  | .step _ _ _ _ _ alts _ r => max alts.tall r.tall
  | .br _ _ _ s r => max (1 + s.tall) r.tall
def vlBrief (l : List Vl) : Prop := ∀ i (h : i < l.length), l[i].s.size ≤ 60
def St.brief : St → Prop
  | .nil => True
  | .step _ to nm t vals alts _ r => to.size ≤ 60 ∧ nm.size ≤ 60 ∧ t.s.size ≤ 60 ∧ vlBrief vals ∧ alts.brief ∧ r.brief
  | .br _ t _ s r => t.s.size ≤ 60 ∧ s.brief ∧ r.brief
/-- A step's cells, one by one. -/
theorem stIn_cells {w : World} {op : Int} {to nm : ByteArray} {t : Tg} {vals : List Vl} {alts r : St} {n : Int} {b o i : Nat} (h : StIn w (.step op to nm t vals alts n r) b o i) : to.size ≤ reach ∧ nm.size ≤ reach ∧ t.s.size ≤ reach ∧ ∃ v v', w.cell? ⟨b, o + i * 9, none⟩ = some (.int .i64 op) ∧ w.cell? ⟨b, o + i * 9 + 1, none⟩ = some (.string to) ∧ w.cell? ⟨b, o + i * 9 + 2, none⟩ = some (.string nm) ∧ w.cell? ⟨b, o + i * 9 + 3 + 1, none⟩ = some (.string t.s) ∧ w.cell? ⟨b, o + i * 9 + 6, none⟩ = some v ∧ w.cell? ⟨b, o + i * 9 + 7, none⟩ = some v' ∧
    (SlAt w v vals.length fun b o => VlIn w vals b o) ∧ (SlAt w v' alts.len fun b o => StIn w alts b o 0) ∧ StIn w r b o (i + 1) := by
  obtain ⟨⟨h1, h2, h3, h4, k1, k2, k3, k4, ⟨v, g1, g2⟩, ⟨v', g3, g4⟩, h5⟩, h6⟩ := h
  exact ⟨k2, k3, h4.2.2.2.2.1, v, v', h1, h2, h3, h4.2.1, g1, g3, g2, g4, h6⟩
theorem brIn_cells {w : World} {take : Int} {t : Tg} {n : Int} {s r : St} {b o i : Nat} (h : StIn w (.br take t n s r) b o i) : t.s.size ≤ reach ∧ ∃ v, w.cell? ⟨b, o + i * 6 + 1 + 1, none⟩ = some (.string t.s) ∧ w.cell? ⟨b, o + i * 6 + 5, none⟩ = some v ∧ (SlAt w v s.len fun b o => StIn w s b o 0) ∧ StIn w r b o (i + 1) := by
  obtain ⟨⟨h1, h2, h3, k1, k2, ⟨v, g1, g2⟩⟩, h6⟩ := h
  exact ⟨h2.2.2.2.2.1, v, h2.2.1, g1, g2, h6⟩
theorem wrap64_i {n : Int} (h1 : -9223372036854775808 ≤ n) (h2 : n ≤ 9223372036854775807) : IntKind.i64.wrap n = n := by
  have e3 : IntKind.i64.wrap n = if n % 18446744073709551616 ≥ 9223372036854775808 then n % 18446744073709551616 - 18446744073709551616 else n % 18446744073709551616 := by
    unfold IntKind.wrap
    simp [IntKind.bits, IntKind.signed]
  rw [e3]
  split <;> omega
theorem stStep_wf {op : Int} {to nm : ByteArray} {t : Tg} {vals : List Vl} {alts r : St} {n : Int} {k : Bool} (h : (St.step op to nm t vals alts n r).wf k) : alts.wf false ∧ r.wf true := h.2
theorem stBr_wf {take : Int} {t : Tg} {n : Int} {s r : St} {k : Bool} (h : (St.br take t n s r).wf k) : s.wf true ∧ r.wf false := h.2
end Go.Proofs.YtoidogfnjpmceaaDoor
