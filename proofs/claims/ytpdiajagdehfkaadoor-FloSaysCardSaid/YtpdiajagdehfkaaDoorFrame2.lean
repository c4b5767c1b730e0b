/- What the listed variables' condition gives: the two tables and the errors' variables. Conditions: the listed variables read as start-up lays them. -/
import Derived.Test.YtpdiajagdehfkaaDoorFrame
import Derived.Test.YtpdiajagdehfkaaDoorW18
namespace Go.Proofs.YtpdiajagdehfkaaDoor
open Go.ChangeShapes Go.WideShapes Go.ChangeAt Go.RowKit

theorem star : ("*" ++ "errors.errorString") = "*errors.errorString" := by decide +kernel
set_option maxRecDepth 100000 in
theorem row121 (u : TypeId) (h : Tryd.prog.typeName? 3 u = some "*errors.errorString") : u = 121 :=
  typeName_ptr_named (nm := "errors.errorString") (by rw [star]; kernel_rfl) (by kernel_rfl) (by decide) u (by rw [star]; exact h)

theorem sent {n : String} {g : Nat} {text : List UInt8} {r : List (String × DataW Unit)} {W : World}
    (h : laidMet Tryd.prog ((n, .iface "*errors.errorString" (.ptr (.agg [.lit (.string text)]))) :: r) W)
    (hg : Tryd.prog.globalNamed n = some g) (ht : (Tryd.prog.globals[g]?).map (·.type) = some 31) :
    ∃ a, W.var? Tryd.prog n = some #[.iface 121 (.pointer (some a))] := by
  obtain ⟨a, s, hv, _⟩ := laid_sentinel h hg ht Tryd.underlying31 row121 Tryd.underlying121 Tryd.underlying123 rfl rfl Tryd.underlying9 (by kernel_rfl) (by kernel_rfl)
  exact ⟨a, hv⟩

theorem all_of_laid {W : World} (h : laidMet Tryd.prog Rows.floBackRow.laid W) : All W := by
  have ht := tabs_of_laid h
  have h1 := h.tail.tail.tail
  obtain ⟨a, e1⟩ := sent h1 glob6 (by kernel_rfl)
  obtain ⟨b, e2⟩ := sent h1.tail glob5 (by kernel_rfl)
  obtain ⟨c, e3⟩ := sent h1.tail.tail glob0 (by kernel_rfl)
  exact ⟨ht, ⟨⟨_, _, e2⟩, ⟨_, _, e1⟩, ⟨_, _, e3⟩⟩⟩

end Go.Proofs.YtpdiajagdehfkaaDoor
