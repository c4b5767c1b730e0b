/- strconv.FormatInt at base 10, as the runner asks for it. Conditions: the table of powers of ten as start-up lays it; 64 bits. -/
import Derived.Test.YtogemcnajcaeoaaGreatDoorExD
import Derived.Test.YtogemcnajcaeoaaGreatDoorShelf
import Derived.Lib.AppendIntMem
namespace Go.Proofs.YtogemcnajcaeoaaGreatDoor
open Go.RowKit
theorem fmt_any (n : Int) (w : World) (h0 : -9223372036854775808 ≤ n) (h1 : n ≤ 9223372036854775807) (ht : ∃ u k, w.heap[8]? = some (.cells (Go.Ex.fmtTab.map fun z => Value.int .u64 z).toArray u k)) :
    Calls Tryz.prog 61 #[.int .i64 n, .int .i64 10] w fun e w' => e = .returned (.string ⟨(Lib.itoa n).toArray⟩) ∧ Below w.heap.size w w' := by
  have htab : Lib.TabIs Tryz.prog w "internal/strconv.uint64pow10" .u64 Lib.pow10Tab := by
    obtain ⟨u, k, h⟩ := ht
    unfold Lib.TabIs World.var?
    rw [show Tryz.prog.globalNamed "internal/strconv.uint64pow10" = some 8 by kernel_rfl, Go.Ex.fmtTab_eq]
    simp only [Option.bind_some, h]
  refine (Tryz.internal_strconv_FormatInt_10 n h0 h1 w htab).mono fun e w' ⟨g1, k, os, g2⟩ => ⟨g1, ?_⟩
  subst g2
  exact Lib.below_grow _ _ (Nat.le_refl _) _ _
end Go.Proofs.YtogemcnajcaeoaaGreatDoor
