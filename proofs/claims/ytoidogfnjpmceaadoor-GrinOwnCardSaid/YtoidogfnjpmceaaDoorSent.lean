/- Errors' variables: what the listed variables' condition says of them; api's eighteen errors. Conditions: the listed variables read as start-up lays them. -/
import Derived.Test.YtoidogfnjpmceaaDoorRows
import Derived.WalkKit
import Derived.Lib.Hide
import Derived.LaidLaws
import Derived.LaidMore
import Derived.ProofKit
import Derived.OpenShut
import Derived.Stop.Joined
import Derived.Stop.LaidErr
namespace Go.Proofs.YtoidogfnjpmceaaDoor
open Go.ChangeShapes Go.WideShapes Go.ChangeAt Go.RowKit

theorem laid_drop {P : Program} {W : World} : ∀ (k : Nat) {l : List (String × DataW Unit)}, laidMet P l W → laidMet P (l.drop k) W
  | 0, _, h => h
  | k + 1, [], h => by simpa using h
  | k + 1, _ :: l, h => by simpa using laid_drop k (l := l) h.tail

theorem starE : ("*" ++ "errors.errorString") = "*errors.errorString" := by decide +kernel
set_option maxRecDepth 100000 in
theorem rowE (u : TypeId) (h : Tryd.prog.typeName? 3 u = some "*errors.errorString") : u = 172 :=
  typeName_ptr_named (nm := "errors.errorString") (by rw [starE]; kernel_rfl) (by kernel_rfl) (by decide) u (by rw [starE]; exact h)

/-- An error's variable, the error, its text. -/
def SentAt (n : String) (t : List UInt8) (a : Addr) (W : World) : Prop :=
  W.var? Tryd.prog n = some #[.iface 172 (.pointer (some a))] ∧ (∃ s, W.cell? a = some (.string s) ∧ s.data.toList = t) ∧ ∃ c u, W.heap[a.block]? = some (.cells c u (0, 0))

set_option maxRecDepth 100000 in
theorem sent1 {n : String} {g : Nat} {text : List UInt8} {r : List (String × DataW Unit)} {W : World}
    (h : laidMet Tryd.prog ((n, .iface "*errors.errorString" (.ptr (.agg [.lit (.string text)]))) :: r) W)
    (hg : Tryd.prog.globalNamed n = some g) (ht : (Tryd.prog.globals[g]?).map (·.type) = some 45) :
    ∃ a, SentAt n text a W := by
  obtain ⟨ps, ⟨g0, t0, cs0, f0, p0, q0, hg0, ht0, hv0, hd0, _, e0⟩, _, hrows⟩ := h
  obtain rfl := Option.some.inj (hg.symm.trans hg0)
  obtain rfl := Option.some.inj (ht.symm.trans ht0)
  subst e0
  obtain ⟨l0⟩ := cs0
  have ok0 : ∀ u v, l0 = [.iface u v] → Value.okWide Tryd.prog W .any 0 u v := fun u v e => by
    subst e
    exact (hrows g 0 (by simp [MemPlace.row])).2 u v (by simpa using World.var?_cell hg0 hv0 0)
  obtain ⟨a0, s0, rfl, hc0, hs0, hz0, rfl⟩ := errorString_of_trod Tryd.underlying45 rowE Tryd.underlying172 Tryd.underlying189 rfl rfl Tryd.underlying9 (by kernel_rfl) (by kernel_rfl) hd0 ok0
  obtain ⟨c0, t0, hb0⟩ := (hrows a0.block a0.off (by simp [MemPlace.row])).1
  exact ⟨a0, hv0, ⟨s0, hc0, hs0⟩, c0, t0, hb0⟩

theorem SentAt.apart {n m : String} {t u : List UInt8} {a b : Addr} {W : World} (h : SentAt n t a W) (k : SentAt m u b W) (hne : t ≠ u) : a ≠ b := by
  rintro rfl
  obtain ⟨_, ⟨s, x, y⟩, _⟩ := h
  obtain ⟨_, ⟨s', x', y'⟩, _⟩ := k
  rw [x] at x'
  injection x' with x'
  injection x' with x'
  subst x'
  exact hne (y.symm.trans y')
end Go.Proofs.YtoidogfnjpmceaaDoor
