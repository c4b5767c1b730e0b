/- What lay below stands: the closing word of the contracts. No conditions. -/
import Derived.Test.YtoidogfnjpmceaaDoorRows
import Derived.WalkKit
import Derived.WalkSpells
import Derived.WalkLawsBesides
import Derived.Lib.Hide
namespace Go.Proofs.YtoidogfnjpmceaaDoor
open Go.RowKit

/-- What lay below stands. -/
def Grew (v : Value) (w : World) (e : Ending) (w' : World) : Prop := e = .returned v ∧ Below w.heap.size w w'
theorem Grew.same {v : Value} {w w' : World} {e : Ending} (h : e = .returned v ∧ w = w') : Grew v w e w' := ⟨h.1, by rw [h.2]; exact Below.refl _ _⟩
theorem var_below {w w' : World} (hb : Below w.heap.size w w') {n : String} {g : Nat} {cs : Array Value} (hg : Tryd.prog.globalNamed n = some g) (h : w.var? Tryd.prog n = some cs) : w'.var? Tryd.prog n = some cs := by
  unfold World.var? at *
  rw [hg] at h ⊢
  simp only [Option.bind_some] at h ⊢
  have hlt : g < w.heap.size := by
    rcases Nat.lt_or_ge g w.heap.size with h' | h'
    · exact h'
    · rw [Array.getElem?_eq_none h'] at h; simp at h
  rw [hb.block g hlt]
  exact h
theorem cell_of_var {w : World} {n : String} {g : Nat} {v : Value} (hg : Tryd.prog.globalNamed n = some g) (h : w.var? Tryd.prog n = some #[v]) : w.cell? ⟨g, 0, none⟩ = some v := by
  have := World.var?_cell hg h 0
  simpa using this
end Go.Proofs.YtoidogfnjpmceaaDoor
