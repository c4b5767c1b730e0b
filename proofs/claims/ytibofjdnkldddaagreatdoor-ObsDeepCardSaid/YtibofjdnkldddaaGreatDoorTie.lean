/-
  DERIVED. GIVEN WITH THE SEED: THE PROGRAM's TIES (one call each: nine closed facts by the kernel) AND EACH ROW's TIE, after the 31st guide's Derived/Test/Toyas{Tie, Card}.lean. No idea stands in it: it is a product of the set-up. Laid BY PROGRAM, IN A SANDBOX (cutbox-door.mjs). By AI agents, Wed Nov 11 2026. No macro, syntax, notation, axiom, sorry.
-/
import Derived.Test.YtibofjdnkldddaaGreatDoorRows
import Derived.LaidByTextLater
import Derived.SevenTiedAt
import Derived.LaidSub
import Derived.LaidOnce
namespace Go.Proofs.YtibofjdnkldddaaGreatDoor
open Go
set_option maxRecDepth 100000
theorem seatTie1 : Tryz.prog.laidByTextLater [("math/bits.deBruijn32tab", Rows.laid_math_bits_deBruijn32tab), ("math/bits.deBruijn64tab", Rows.laid_math_bits_deBruijn64tab), ("internal/strconv.uint64pow10", Rows.laid_internal_strconv_uint64pow10), ("unicode/utf8.acceptRanges", Rows.laid_unicode_utf8_acceptRanges), ("strconv.ErrRange", Rows.laid_strconv_ErrRange), ("strconv.ErrSyntax", Rows.laid_strconv_ErrSyntax), ("gristmill/api.ErrEnd", Rows.laid_gristmill_api_ErrEnd), ("gristmill/api.ErrShape", Rows.laid_gristmill_api_ErrShape), ("gristmill/api.ErrRange", Rows.laid_gristmill_api_ErrRange), ("gristmill/api.ErrMany", Rows.laid_gristmill_api_ErrMany), ("gristmill/api.ErrDeep", Rows.laid_gristmill_api_ErrDeep), ("gristmill/api.ErrOpen", Rows.laid_gristmill_api_ErrOpen), ("gristmill/api.ErrClose", Rows.laid_gristmill_api_ErrClose), ("gristmill/api.ErrForm", Rows.laid_gristmill_api_ErrForm), ("gristmill/api.ErrName", Rows.laid_gristmill_api_ErrName), ("gristmill/api.ErrTwice", Rows.laid_gristmill_api_ErrTwice), ("gristmill/api.ErrNone", Rows.laid_gristmill_api_ErrNone), ("gristmill/api.ErrArity", Rows.laid_gristmill_api_ErrArity), ("gristmill/api.ErrMain", Rows.laid_gristmill_api_ErrMain), ("gristmill/api.ErrType", Rows.laid_gristmill_api_ErrType), ("gristmill/api.ErrBound", Rows.laid_gristmill_api_ErrBound), ("gristmill/api.ErrTag", Rows.laid_gristmill_api_ErrTag), ("gristmill/api.ErrWord", Rows.laid_gristmill_api_ErrWord), ("gristmill/api.ErrNumber", Rows.laid_gristmill_api_ErrNumber)] [.data, .data, .data, .data, .sentinel, .sentinel, .sentinel, .sentinel, .sentinel, .sentinel, .sentinel, .sentinel, .sentinel, .sentinel, .sentinel, .sentinel, .sentinel, .sentinel, .sentinel, .sentinel, .sentinel, .sentinel, .sentinel, .sentinel] true :=
  Program.laidByTextLater_by_one 414 8 65 (by kernel_rfl) (by kernel_rfl) (by kernel_rfl) (by kernel_rfl) (by kernel_rfl) (by kernel_rfl) (fun _ _ => by kernel_rfl)
theorem pin_laid_unicode_utf8_first : Tryz.pinned.checked.prog.pinnedFits "unicode/utf8.first" = true := by kernel_rfl
theorem noOwnUnsafe : Tryz.pinned.checked.prog.headLifts.contains "ownunsafe" = false := by kernel_rfl
theorem fits1 : Tryz.pinned.checked.prog.listedFits [("math/bits.deBruijn32tab", Rows.laid_math_bits_deBruijn32tab), ("math/bits.deBruijn64tab", Rows.laid_math_bits_deBruijn64tab), ("internal/strconv.uint64pow10", Rows.laid_internal_strconv_uint64pow10), ("unicode/utf8.acceptRanges", Rows.laid_unicode_utf8_acceptRanges), ("strconv.ErrRange", Rows.laid_strconv_ErrRange), ("strconv.ErrSyntax", Rows.laid_strconv_ErrSyntax), ("gristmill/api.ErrEnd", Rows.laid_gristmill_api_ErrEnd), ("gristmill/api.ErrShape", Rows.laid_gristmill_api_ErrShape), ("gristmill/api.ErrRange", Rows.laid_gristmill_api_ErrRange), ("gristmill/api.ErrMany", Rows.laid_gristmill_api_ErrMany), ("gristmill/api.ErrDeep", Rows.laid_gristmill_api_ErrDeep), ("gristmill/api.ErrOpen", Rows.laid_gristmill_api_ErrOpen), ("gristmill/api.ErrClose", Rows.laid_gristmill_api_ErrClose), ("gristmill/api.ErrForm", Rows.laid_gristmill_api_ErrForm), ("gristmill/api.ErrName", Rows.laid_gristmill_api_ErrName), ("gristmill/api.ErrTwice", Rows.laid_gristmill_api_ErrTwice), ("gristmill/api.ErrNone", Rows.laid_gristmill_api_ErrNone), ("gristmill/api.ErrArity", Rows.laid_gristmill_api_ErrArity), ("gristmill/api.ErrMain", Rows.laid_gristmill_api_ErrMain), ("gristmill/api.ErrType", Rows.laid_gristmill_api_ErrType), ("gristmill/api.ErrBound", Rows.laid_gristmill_api_ErrBound), ("gristmill/api.ErrTag", Rows.laid_gristmill_api_ErrTag), ("gristmill/api.ErrWord", Rows.laid_gristmill_api_ErrWord), ("gristmill/api.ErrNumber", Rows.laid_gristmill_api_ErrNumber), ("unicode/utf8.first", Rows.laid_unicode_utf8_first)] = true := by
  unfold Program.listedFits
  rw [noOwnUnsafe]
  kernel_rfl
theorem tie : Tryz.prog.laidByTextLater [("math/bits.deBruijn32tab", Rows.laid_math_bits_deBruijn32tab), ("math/bits.deBruijn64tab", Rows.laid_math_bits_deBruijn64tab), ("internal/strconv.uint64pow10", Rows.laid_internal_strconv_uint64pow10), ("unicode/utf8.acceptRanges", Rows.laid_unicode_utf8_acceptRanges), ("strconv.ErrRange", Rows.laid_strconv_ErrRange), ("strconv.ErrSyntax", Rows.laid_strconv_ErrSyntax), ("gristmill/api.ErrEnd", Rows.laid_gristmill_api_ErrEnd), ("gristmill/api.ErrShape", Rows.laid_gristmill_api_ErrShape), ("gristmill/api.ErrRange", Rows.laid_gristmill_api_ErrRange), ("gristmill/api.ErrMany", Rows.laid_gristmill_api_ErrMany), ("gristmill/api.ErrDeep", Rows.laid_gristmill_api_ErrDeep), ("gristmill/api.ErrOpen", Rows.laid_gristmill_api_ErrOpen), ("gristmill/api.ErrClose", Rows.laid_gristmill_api_ErrClose), ("gristmill/api.ErrForm", Rows.laid_gristmill_api_ErrForm), ("gristmill/api.ErrName", Rows.laid_gristmill_api_ErrName), ("gristmill/api.ErrTwice", Rows.laid_gristmill_api_ErrTwice), ("gristmill/api.ErrNone", Rows.laid_gristmill_api_ErrNone), ("gristmill/api.ErrArity", Rows.laid_gristmill_api_ErrArity), ("gristmill/api.ErrMain", Rows.laid_gristmill_api_ErrMain), ("gristmill/api.ErrType", Rows.laid_gristmill_api_ErrType), ("gristmill/api.ErrBound", Rows.laid_gristmill_api_ErrBound), ("gristmill/api.ErrTag", Rows.laid_gristmill_api_ErrTag), ("gristmill/api.ErrWord", Rows.laid_gristmill_api_ErrWord), ("gristmill/api.ErrNumber", Rows.laid_gristmill_api_ErrNumber)] [.data, .data, .data, .data, .sentinel, .sentinel, .sentinel, .sentinel, .sentinel, .sentinel, .sentinel, .sentinel, .sentinel, .sentinel, .sentinel, .sentinel, .sentinel, .sentinel, .sentinel, .sentinel, .sentinel, .sentinel, .sentinel, .sentinel] true :=
  Program.laidByTextLater.sub seatTie1 ["math/bits.deBruijn32tab", "math/bits.deBruijn64tab", "internal/strconv.uint64pow10", "unicode/utf8.acceptRanges", "strconv.ErrRange", "strconv.ErrSyntax", "gristmill/api.ErrEnd", "gristmill/api.ErrShape", "gristmill/api.ErrRange", "gristmill/api.ErrMany", "gristmill/api.ErrDeep", "gristmill/api.ErrOpen", "gristmill/api.ErrClose", "gristmill/api.ErrForm", "gristmill/api.ErrName", "gristmill/api.ErrTwice", "gristmill/api.ErrNone", "gristmill/api.ErrArity", "gristmill/api.ErrMain", "gristmill/api.ErrType", "gristmill/api.ErrBound", "gristmill/api.ErrTag", "gristmill/api.ErrWord", "gristmill/api.ErrNumber"] (by kernel_rfl) (by kernel_rfl)
theorem obsDeep_row_tie : Rows.obsDeepRow.laidByTextAt .later Tryz.pinned [.data, .data, .data, .data, .sentinel, .sentinel, .sentinel, .sentinel, .sentinel, .sentinel, .sentinel, .sentinel, .sentinel, .sentinel, .sentinel, .sentinel, .sentinel, .sentinel, .sentinel, .sentinel, .sentinel, .sentinel, .sentinel, .sentinel, .pinned] true :=
  OpenClaim.laidByTextAt_pinned rfl rfl tie rfl rfl rfl rfl (fun y hy _e => by
    simp only [Rows.obsDeepRow, List.zip_cons_cons, List.zip_nil_right, List.mem_cons, List.mem_nil_iff, or_false] at hy
    rcases hy with rfl | rfl | rfl | rfl | rfl | rfl | rfl | rfl | rfl | rfl | rfl | rfl | rfl | rfl | rfl | rfl | rfl | rfl | rfl | rfl | rfl | rfl | rfl | rfl | rfl
    · cases _e
    · cases _e
    · cases _e
    · cases _e
    · cases _e
    · cases _e
    · cases _e
    · cases _e
    · cases _e
    · cases _e
    · cases _e
    · cases _e
    · cases _e
    · cases _e
    · cases _e
    · cases _e
    · cases _e
    · cases _e
    · cases _e
    · cases _e
    · cases _e
    · cases _e
    · cases _e
    · cases _e
    · exact ⟨pin_laid_unicode_utf8_first, by kernel_rfl⟩) fits1
theorem obsDeepUpto_row_tie : Rows.obsDeepUptoRow.laidByTextAt .later Tryz.pinned [.data, .data, .data, .data, .sentinel, .sentinel, .sentinel, .sentinel, .sentinel, .sentinel, .sentinel, .sentinel, .sentinel, .sentinel, .sentinel, .sentinel, .sentinel, .sentinel, .sentinel, .sentinel, .sentinel, .sentinel, .sentinel, .sentinel, .pinned] true :=
  OpenClaim.laidByTextAt_pinned rfl rfl tie rfl rfl rfl rfl (fun y hy _e => by
    simp only [Rows.obsDeepUptoRow, List.zip_cons_cons, List.zip_nil_right, List.mem_cons, List.mem_nil_iff, or_false] at hy
    rcases hy with rfl | rfl | rfl | rfl | rfl | rfl | rfl | rfl | rfl | rfl | rfl | rfl | rfl | rfl | rfl | rfl | rfl | rfl | rfl | rfl | rfl | rfl | rfl | rfl | rfl
    · cases _e
    · cases _e
    · cases _e
    · cases _e
    · cases _e
    · cases _e
    · cases _e
    · cases _e
    · cases _e
    · cases _e
    · cases _e
    · cases _e
    · cases _e
    · cases _e
    · cases _e
    · cases _e
    · cases _e
    · cases _e
    · cases _e
    · cases _e
    · cases _e
    · cases _e
    · cases _e
    · cases _e
    · exact ⟨pin_laid_unicode_utf8_first, by kernel_rfl⟩) fits1
end Go.Proofs.YtibofjdnkldddaaGreatDoor
