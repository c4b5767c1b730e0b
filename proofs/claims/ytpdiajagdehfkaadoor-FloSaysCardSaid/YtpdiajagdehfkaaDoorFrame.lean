/- What the listed variables' condition gives: the two tables. Conditions: the listed variables read as start-up lays them. -/
import Derived.Test.YtpdiajagdehfkaaDoorW6
import Derived.Test.YtpdiajagdehfkaaDoorTie
import Derived.Test.YtpdiajagdehfkaaDoorCards
import Derived.ProofKit
import Derived.LaidMore
import Derived.OpenShut
import Derived.Stop.Joined
import Derived.Stop.LaidErr
namespace Go.Proofs.YtpdiajagdehfkaaDoor
open Go.ChangeShapes Go.WideShapes Go.ChangeAt Go.RowKit

theorem own : ownKnob Tryd.prog.godebug = none := by kernel_rfl

def pow10I : List Int := [1, 10, 100, 1000, 10000, 100000, 1000000, 10000000, 100000000, 1000000000, 10000000000, 100000000000, 1000000000000, 10000000000000, 100000000000000, 1000000000000000, 10000000000000000, 100000000000000000, 1000000000000000000, 10000000000000000000]

/-- WHAT THE CONDITION GIVES THE WALKS: the two tables. -/
theorem tabs_of_laid {W : World} {rest : List (String × DataW Unit)} (h : laidMet Tryd.prog (("math/bits.deBruijn32tab", Rows.laid_math_bits_deBruijn32tab) :: ("math/bits.deBruijn64tab", Rows.laid_math_bits_deBruijn64tab) :: ("internal/strconv.uint64pow10", Rows.laid_internal_strconv_uint64pow10) :: rest) W) : Tabs W := by
  have h1 := h.tail
  have h2 := h1.tail
  have e1 : (Rows.laid_math_bits_deBruijn64tab : DataW Unit) = Lib.tabData .u8 (Lib.deBruijn64tab.map Int.ofNat) := rfl
  have e2 : (Rows.laid_internal_strconv_uint64pow10 : DataW Unit) = Lib.tabData .u64 Lib.pow10Tab := rfl
  rw [e1] at h1
  rw [e2] at h2
  have g2 : Tryd.prog.globalNamed "math/bits.deBruijn64tab" = some 2 := by kernel_rfl
  have t1 := Lib.tabIs_of_head g2 (t := 86) (by kernel_rfl) Tryd.underlying86 Tryd.underlying5 (by kernel_rfl) (by kernel_rfl) h1
  have t2 := Lib.tabIs_of_head glob3 (t := 107) (by kernel_rfl) Tryd.underlying107 Tryd.underlying22 (by kernel_rfl) (by kernel_rfl) h2
  refine ⟨fun j hj => ?_, t2⟩
  have hc := t1.cell g2 j (by rw [List.length_map]; exact hj)
  rw [hc]
  congr 2
  simp [List.getD]
  cases Lib.deBruijn64tab[j]? <;> rfl

theorem nat_of_u64 {n : Int} (h : (Lit.int .u64 n).wf = true) : ∃ a : Nat, n = a ∧ a < 18446744073709551616 := by
  simp [Lit.wf, IntKind.min, IntKind.max, IntKind.signed, IntKind.bits] at h
  exact ⟨n.toNat, by omega, by omega⟩

end Go.Proofs.YtpdiajagdehfkaaDoor
