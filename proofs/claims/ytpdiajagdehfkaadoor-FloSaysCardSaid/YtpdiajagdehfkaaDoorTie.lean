/-
  DERIVED. GIVEN WITH THE SEED: THE PROGRAM's TIES (one call each: nine closed facts by the kernel) AND EACH ROW's TIE, after the 31st guide's Derived/Test/Toyas{Tie, Card}.lean. No idea stands in it: it is a product of the set-up. Laid BY PROGRAM, IN A SANDBOX (cutbox-door.mjs). By AI agents, Wed Nov 11 2026. No macro, syntax, notation, axiom, sorry.
-/
import Derived.Test.YtpdiajagdehfkaaDoorRows
import Derived.LaidByTextLater
import Derived.SevenTiedAt
import Derived.LaidSub
import Derived.LaidOnce
namespace Go.Proofs.YtpdiajagdehfkaaDoor
open Go
set_option maxRecDepth 100000
theorem seatTie1 : Tryd.prog.laidByTextLater [("math/bits.deBruijn32tab", Rows.laid_math_bits_deBruijn32tab), ("math/bits.deBruijn64tab", Rows.laid_math_bits_deBruijn64tab), ("internal/strconv.uint64pow10", Rows.laid_internal_strconv_uint64pow10), ("strconv.ErrRange", Rows.laid_strconv_ErrRange), ("strconv.ErrSyntax", Rows.laid_strconv_ErrSyntax), ("gristmill/api.ErrEnd", Rows.laid_gristmill_api_ErrEnd), ("gristmill/api.ErrShape", Rows.laid_gristmill_api_ErrShape), ("gristmill/api.ErrRange", Rows.laid_gristmill_api_ErrRange), ("gristmill/api.ErrMany", Rows.laid_gristmill_api_ErrMany), ("gristmill/api.ErrDeep", Rows.laid_gristmill_api_ErrDeep), ("gristmill/api.ErrOpen", Rows.laid_gristmill_api_ErrOpen), ("gristmill/api.ErrClose", Rows.laid_gristmill_api_ErrClose), ("gristmill/api.ErrForm", Rows.laid_gristmill_api_ErrForm), ("gristmill/api.ErrName", Rows.laid_gristmill_api_ErrName), ("gristmill/api.ErrTwice", Rows.laid_gristmill_api_ErrTwice), ("gristmill/api.ErrNone", Rows.laid_gristmill_api_ErrNone), ("gristmill/api.ErrArity", Rows.laid_gristmill_api_ErrArity), ("gristmill/api.ErrMain", Rows.laid_gristmill_api_ErrMain), ("gristmill/api.ErrType", Rows.laid_gristmill_api_ErrType), ("gristmill/api.ErrBound", Rows.laid_gristmill_api_ErrBound), ("gristmill/api.ErrTag", Rows.laid_gristmill_api_ErrTag), ("gristmill/api.ErrWord", Rows.laid_gristmill_api_ErrWord), ("gristmill/api.ErrNumber", Rows.laid_gristmill_api_ErrNumber)] [.data, .data, .data, .sentinel, .sentinel, .sentinel, .sentinel, .sentinel, .sentinel, .sentinel, .sentinel, .sentinel, .sentinel, .sentinel, .sentinel, .sentinel, .sentinel, .sentinel, .sentinel, .sentinel, .sentinel, .sentinel, .sentinel] true :=
  Program.laidByTextLater_by_one 404 8 65 (by kernel_rfl) (by kernel_rfl) (by kernel_rfl) (by kernel_rfl) (by kernel_rfl) (by kernel_rfl) (fun _ _ => by kernel_rfl)
theorem noOwnUnsafe : Tryd.pinned.checked.prog.headLifts.contains "ownunsafe" = false := by kernel_rfl
theorem tie : Tryd.prog.laidByTextLater [("math/bits.deBruijn32tab", Rows.laid_math_bits_deBruijn32tab), ("math/bits.deBruijn64tab", Rows.laid_math_bits_deBruijn64tab), ("internal/strconv.uint64pow10", Rows.laid_internal_strconv_uint64pow10), ("strconv.ErrRange", Rows.laid_strconv_ErrRange), ("strconv.ErrSyntax", Rows.laid_strconv_ErrSyntax), ("gristmill/api.ErrEnd", Rows.laid_gristmill_api_ErrEnd), ("gristmill/api.ErrShape", Rows.laid_gristmill_api_ErrShape), ("gristmill/api.ErrRange", Rows.laid_gristmill_api_ErrRange), ("gristmill/api.ErrMany", Rows.laid_gristmill_api_ErrMany), ("gristmill/api.ErrDeep", Rows.laid_gristmill_api_ErrDeep), ("gristmill/api.ErrOpen", Rows.laid_gristmill_api_ErrOpen), ("gristmill/api.ErrClose", Rows.laid_gristmill_api_ErrClose), ("gristmill/api.ErrForm", Rows.laid_gristmill_api_ErrForm), ("gristmill/api.ErrName", Rows.laid_gristmill_api_ErrName), ("gristmill/api.ErrTwice", Rows.laid_gristmill_api_ErrTwice), ("gristmill/api.ErrNone", Rows.laid_gristmill_api_ErrNone), ("gristmill/api.ErrArity", Rows.laid_gristmill_api_ErrArity), ("gristmill/api.ErrMain", Rows.laid_gristmill_api_ErrMain), ("gristmill/api.ErrType", Rows.laid_gristmill_api_ErrType), ("gristmill/api.ErrBound", Rows.laid_gristmill_api_ErrBound), ("gristmill/api.ErrTag", Rows.laid_gristmill_api_ErrTag), ("gristmill/api.ErrWord", Rows.laid_gristmill_api_ErrWord), ("gristmill/api.ErrNumber", Rows.laid_gristmill_api_ErrNumber)] [.data, .data, .data, .sentinel, .sentinel, .sentinel, .sentinel, .sentinel, .sentinel, .sentinel, .sentinel, .sentinel, .sentinel, .sentinel, .sentinel, .sentinel, .sentinel, .sentinel, .sentinel, .sentinel, .sentinel, .sentinel, .sentinel] true :=
  Program.laidByTextLater.sub seatTie1 ["math/bits.deBruijn32tab", "math/bits.deBruijn64tab", "internal/strconv.uint64pow10", "strconv.ErrRange", "strconv.ErrSyntax", "gristmill/api.ErrEnd", "gristmill/api.ErrShape", "gristmill/api.ErrRange", "gristmill/api.ErrMany", "gristmill/api.ErrDeep", "gristmill/api.ErrOpen", "gristmill/api.ErrClose", "gristmill/api.ErrForm", "gristmill/api.ErrName", "gristmill/api.ErrTwice", "gristmill/api.ErrNone", "gristmill/api.ErrArity", "gristmill/api.ErrMain", "gristmill/api.ErrType", "gristmill/api.ErrBound", "gristmill/api.ErrTag", "gristmill/api.ErrWord", "gristmill/api.ErrNumber"] (by kernel_rfl) (by kernel_rfl)
theorem floSays_row_tie : Rows.floSaysRow.laidByTextAt .later Tryd.pinned [.data, .data, .data, .sentinel, .sentinel, .sentinel, .sentinel, .sentinel, .sentinel, .sentinel, .sentinel, .sentinel, .sentinel, .sentinel, .sentinel, .sentinel, .sentinel, .sentinel, .sentinel, .sentinel, .sentinel, .sentinel, .sentinel] true :=
  OpenClaim.laidByTextAt_later rfl rfl tie noOwnUnsafe
theorem tie2 : Tryd.prog.laidByTextLater [("math/bits.deBruijn32tab", Rows.laid_math_bits_deBruijn32tab), ("math/bits.deBruijn64tab", Rows.laid_math_bits_deBruijn64tab), ("internal/strconv.uint64pow10", Rows.laid_internal_strconv_uint64pow10), ("strconv.ErrRange", Rows.laid_strconv_ErrRange), ("strconv.ErrSyntax", Rows.laid_strconv_ErrSyntax), ("gristmill/api.ErrNumber", Rows.laid_gristmill_api_ErrNumber)] [.data, .data, .data, .sentinel, .sentinel, .sentinel] true :=
  Program.laidByTextLater.sub seatTie1 ["math/bits.deBruijn32tab", "math/bits.deBruijn64tab", "internal/strconv.uint64pow10", "strconv.ErrRange", "strconv.ErrSyntax", "gristmill/api.ErrNumber"] (by kernel_rfl) (by kernel_rfl)
theorem floBack_row_tie : Rows.floBackRow.laidByTextAt .later Tryd.pinned [.data, .data, .data, .sentinel, .sentinel, .sentinel] true :=
  OpenClaim.laidByTextAt_later rfl rfl tie2 noOwnUnsafe
theorem floForms_row_tie : Rows.floFormsRow.laidByTextAt .later Tryd.pinned [.data, .data, .data, .sentinel, .sentinel, .sentinel] true :=
  OpenClaim.laidByTextAt_later rfl rfl tie2 noOwnUnsafe
theorem tie3 : Tryd.prog.laidByTextLater [("math/bits.deBruijn32tab", Rows.laid_math_bits_deBruijn32tab), ("math/bits.deBruijn64tab", Rows.laid_math_bits_deBruijn64tab), ("internal/strconv.uint64pow10", Rows.laid_internal_strconv_uint64pow10)] [.data, .data, .data] true :=
  Program.laidByTextLater.sub seatTie1 ["math/bits.deBruijn32tab", "math/bits.deBruijn64tab", "internal/strconv.uint64pow10"] (by kernel_rfl) (by kernel_rfl)
theorem floEdges_row_tie : Rows.floEdgesRow.laidByTextAt .later Tryd.pinned [.data, .data, .data] true :=
  OpenClaim.laidByTextAt_later rfl rfl tie3 noOwnUnsafe
theorem floWhole_row_tie : Rows.floWholeRow.laidByTextAt .later Tryd.pinned [.data, .data, .data] true :=
  OpenClaim.laidByTextAt_later rfl rfl tie3 noOwnUnsafe
theorem floOrder_row_tie : Rows.floOrderRow.laidByTextAt .later Tryd.pinned [.data, .data, .data] true :=
  OpenClaim.laidByTextAt_later rfl rfl tie3 noOwnUnsafe
theorem floZeros_row_tie : Rows.floZerosRow.laidByTextAt .later Tryd.pinned [.data, .data, .data] true :=
  OpenClaim.laidByTextAt_later rfl rfl tie3 noOwnUnsafe
theorem floSaysUpto_row_tie : Rows.floSaysUptoRow.laidByTextAt .later Tryd.pinned [.data, .data, .data, .sentinel, .sentinel, .sentinel, .sentinel, .sentinel, .sentinel, .sentinel, .sentinel, .sentinel, .sentinel, .sentinel, .sentinel, .sentinel, .sentinel, .sentinel, .sentinel, .sentinel, .sentinel, .sentinel, .sentinel] true :=
  OpenClaim.laidByTextAt_later rfl rfl tie noOwnUnsafe
theorem floBackUpto_row_tie : Rows.floBackUptoRow.laidByTextAt .later Tryd.pinned [.data, .data, .data, .sentinel, .sentinel, .sentinel] true :=
  OpenClaim.laidByTextAt_later rfl rfl tie2 noOwnUnsafe
theorem floEdgesUpto_row_tie : Rows.floEdgesUptoRow.laidByTextAt .later Tryd.pinned [.data, .data, .data] true :=
  OpenClaim.laidByTextAt_later rfl rfl tie3 noOwnUnsafe
theorem floWholeUpto_row_tie : Rows.floWholeUptoRow.laidByTextAt .later Tryd.pinned [.data, .data, .data] true :=
  OpenClaim.laidByTextAt_later rfl rfl tie3 noOwnUnsafe
theorem floOrderUpto_row_tie : Rows.floOrderUptoRow.laidByTextAt .later Tryd.pinned [.data, .data, .data] true :=
  OpenClaim.laidByTextAt_later rfl rfl tie3 noOwnUnsafe
theorem floZerosUpto_row_tie : Rows.floZerosUptoRow.laidByTextAt .later Tryd.pinned [.data, .data, .data] true :=
  OpenClaim.laidByTextAt_later rfl rfl tie3 noOwnUnsafe
theorem floFormsUpto_row_tie : Rows.floFormsUptoRow.laidByTextAt .later Tryd.pinned [.data, .data, .data, .sentinel, .sentinel, .sentinel] true :=
  OpenClaim.laidByTextAt_later rfl rfl tie2 noOwnUnsafe
end Go.Proofs.YtpdiajagdehfkaaDoor
