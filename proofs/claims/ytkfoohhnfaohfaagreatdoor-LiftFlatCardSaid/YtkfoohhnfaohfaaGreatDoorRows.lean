/-
  NARROWER THAN 'FOR EVERY INPUT', by the rows' own cells (each row's printed sentence says how): LiftFlat: loops, laid.
  DERIVED. THE GIVEN ROWS OF THIS SEAT. 1 by the template 'for every input the law returns true; each argument reads behind the call as it read before'; 0 by the template 'total and deterministic' (their statements: YtkfoohhnfaohfaaGreatDoorTotals.lean).
  GIVEN WITH THE SEED: the statements are not yours to turn. If you find one false, say at which input.
  Laid BY PROGRAM, IN A SANDBOX (cutbox-rows.mjs): the forced cells as the released guide's own fill.sh prints them over the translation 4208180dbe8331c6… (all of the seat's roots in one cut). By AI agents, Wed Nov 11 2026. No macro, syntax, notation, axiom, sorry.
-/
import Derived.Test.YtkfoohhnfaohfaaGreatDoorChecked
import GoSem.Claim
import GoSem.ClaimJoined
import GoSem.ClaimMapViews
import Derived.JoinedTies
import Derived.KernelRfl
namespace Go.Proofs.YtkfoohhnfaohfaaGreatDoor
/- THE CELL 'sum', in the pinned program and in every row, IS THE sha256 OF THE DUMP (.gsa) THAT YtkfoohhnfaohfaaGreatDoorProg.lean LOADS. Nothing in Lean hashes anything: it is a label: what it is worth is what the hold of that sum in a sandbox is worth. -/
noncomputable def Tryz.pinned : Pinned := { name := "ytkfoohhnfaohfaagreatdoor", sum := "4208180dbe8331c6b47dcf8194dd7e7b75e23d6165815337032d2fe5cff1c7bd", checked := Tryz.checked }
namespace Rows
def none {H : Type} : Left H := { results := [], args := [] }

/- WHAT THE LISTED PACKAGE-LEVEL VARIABLES READ AS WHEN THE CALL BEGINS. Each datum BY PROGRAM (the guide's laid-datum.mjs) off the statement by which the dump's own 'gosem.cut.vars' lays the variable. In a bare row this is a premise. The card (YtkfoohhnfaohfaaGreatDoorCards.lean) ties it to the program's text. -/
def laid_math_bits_deBruijn32tab {H : Type} : DataW H := .agg [.lit (.int .u8 0), .lit (.int .u8 1), .lit (.int .u8 28), .lit (.int .u8 2), .lit (.int .u8 29), .lit (.int .u8 14), .lit (.int .u8 24), .lit (.int .u8 3), .lit (.int .u8 30), .lit (.int .u8 22), .lit (.int .u8 20), .lit (.int .u8 15), .lit (.int .u8 25), .lit (.int .u8 17), .lit (.int .u8 4), .lit (.int .u8 8), .lit (.int .u8 31), .lit (.int .u8 27), .lit (.int .u8 13), .lit (.int .u8 23), .lit (.int .u8 21), .lit (.int .u8 19), .lit (.int .u8 16), .lit (.int .u8 7), .lit (.int .u8 26), .lit (.int .u8 12), .lit (.int .u8 18), .lit (.int .u8 6), .lit (.int .u8 11), .lit (.int .u8 5), .lit (.int .u8 10), .lit (.int .u8 9)]
def laid_math_bits_deBruijn64tab {H : Type} : DataW H := .agg [.lit (.int .u8 0), .lit (.int .u8 1), .lit (.int .u8 56), .lit (.int .u8 2), .lit (.int .u8 57), .lit (.int .u8 49), .lit (.int .u8 28), .lit (.int .u8 3), .lit (.int .u8 61), .lit (.int .u8 58), .lit (.int .u8 42), .lit (.int .u8 50), .lit (.int .u8 38), .lit (.int .u8 29), .lit (.int .u8 17), .lit (.int .u8 4), .lit (.int .u8 62), .lit (.int .u8 47), .lit (.int .u8 59), .lit (.int .u8 36), .lit (.int .u8 45), .lit (.int .u8 43), .lit (.int .u8 51), .lit (.int .u8 22), .lit (.int .u8 53), .lit (.int .u8 39), .lit (.int .u8 33), .lit (.int .u8 30), .lit (.int .u8 24), .lit (.int .u8 18), .lit (.int .u8 12), .lit (.int .u8 5), .lit (.int .u8 63), .lit (.int .u8 55), .lit (.int .u8 48), .lit (.int .u8 27), .lit (.int .u8 60), .lit (.int .u8 41), .lit (.int .u8 37), .lit (.int .u8 16), .lit (.int .u8 46), .lit (.int .u8 35), .lit (.int .u8 44), .lit (.int .u8 21), .lit (.int .u8 52), .lit (.int .u8 32), .lit (.int .u8 23), .lit (.int .u8 11), .lit (.int .u8 54), .lit (.int .u8 26), .lit (.int .u8 40), .lit (.int .u8 15), .lit (.int .u8 34), .lit (.int .u8 20), .lit (.int .u8 31), .lit (.int .u8 10), .lit (.int .u8 25), .lit (.int .u8 14), .lit (.int .u8 19), .lit (.int .u8 9), .lit (.int .u8 13), .lit (.int .u8 8), .lit (.int .u8 7), .lit (.int .u8 6)]
def laid_internal_strconv_uint64pow10 {H : Type} : DataW H := .agg [.lit (.int .u64 1), .lit (.int .u64 10), .lit (.int .u64 100), .lit (.int .u64 1000), .lit (.int .u64 10000), .lit (.int .u64 100000), .lit (.int .u64 1000000), .lit (.int .u64 10000000), .lit (.int .u64 100000000), .lit (.int .u64 1000000000), .lit (.int .u64 10000000000), .lit (.int .u64 100000000000), .lit (.int .u64 1000000000000), .lit (.int .u64 10000000000000), .lit (.int .u64 100000000000000), .lit (.int .u64 1000000000000000), .lit (.int .u64 10000000000000000), .lit (.int .u64 100000000000000000), .lit (.int .u64 1000000000000000000), .lit (.int .u64 10000000000000000000)]
def laid_gristmill_api_ErrMany {H : Type} : DataW H := .iface "*errors.errorString" (.ptr (.agg [.lit (.string [116, 111, 111, 32, 109, 97, 110, 121])]))
def laid_gristmill_api_ErrDeep {H : Type} : DataW H := .iface "*errors.errorString" (.ptr (.agg [.lit (.string [116, 111, 111, 32, 100, 101, 101, 112])]))
def laid_gristmill_api_ErrForm {H : Type} : DataW H := .iface "*errors.errorString" (.ptr (.agg [.lit (.string [110, 111, 32, 115, 117, 99, 104, 32, 102, 111, 114, 109])]))
def laid_gristmill_api_ErrName {H : Type} : DataW H := .iface "*errors.errorString" (.ptr (.agg [.lit (.string [110, 111, 116, 32, 97, 32, 110, 97, 109, 101])]))
def laid_gristmill_api_ErrTwice {H : Type} : DataW H := .iface "*errors.errorString" (.ptr (.agg [.lit (.string [116, 104, 101, 114, 101, 32, 105, 115, 32, 111, 110, 101])]))
def laid_gristmill_api_ErrNone {H : Type} : DataW H := .iface "*errors.errorString" (.ptr (.agg [.lit (.string [116, 104, 101, 114, 101, 32, 105, 115, 32, 110, 111, 110, 101])]))
def laid_gristmill_api_ErrArity {H : Type} : DataW H := .iface "*errors.errorString" (.ptr (.agg [.lit (.string [110, 111, 116, 32, 97, 115, 32, 109, 97, 110, 121, 32, 97, 115, 32, 105, 116, 32, 116, 97, 107, 101, 115])]))
def laid_gristmill_api_ErrMain {H : Type} : DataW H := .iface "*errors.errorString" (.ptr (.agg [.lit (.string [110, 111, 32, 109, 97, 105, 110, 32, 119, 105, 116, 104, 111, 117, 116, 32, 112, 97, 114, 97, 109, 101, 116, 101, 114, 115])]))
def laid_gristmill_num_prims {H : Type} : DataW H := .agg [.agg [.lit (.string [43]), .lit (.int .i64 2), .lit (.bool false)], .agg [.lit (.string [45]), .lit (.int .i64 2), .lit (.bool false)], .agg [.lit (.string [42]), .lit (.int .i64 2), .lit (.bool false)], .agg [.lit (.string [100, 105, 118]), .lit (.int .i64 2), .lit (.bool false)], .agg [.lit (.string [109, 111, 100]), .lit (.int .i64 2), .lit (.bool false)], .agg [.lit (.string [60]), .lit (.int .i64 2), .lit (.bool false)], .agg [.lit (.string [61]), .lit (.int .i64 2), .lit (.bool false)], .agg [.lit (.string [102, 43]), .lit (.int .i64 2), .lit (.bool true)], .agg [.lit (.string [102, 45]), .lit (.int .i64 2), .lit (.bool true)], .agg [.lit (.string [102, 42]), .lit (.int .i64 2), .lit (.bool true)], .agg [.lit (.string [102, 47]), .lit (.int .i64 2), .lit (.bool true)], .agg [.lit (.string [102, 60]), .lit (.int .i64 2), .lit (.bool false)], .agg [.lit (.string [102, 61]), .lit (.int .i64 2), .lit (.bool false)], .agg [.lit (.string [102, 108, 111, 97, 116]), .lit (.int .i64 1), .lit (.bool true)], .agg [.lit (.string [119, 104, 111, 108, 101]), .lit (.int .i64 1), .lit (.bool false)], .agg [.lit (.string [115, 101, 113]), .lit (.int .i64 2), .lit (.bool false)]]

/-- 'gristmilllaw13.LiftFlat': WHATEVER THE INPUT: true; the input reads as it did. -/
def liftFlatSpec : ChangeSpec := { name := "liftFlat", fn := fun _ => fun
  | [d] => { results := [.lit (.bool true)], args := [d] }
  | _ => none }
def liftFlatRow : OpenClaim := { program := "ytkfoohhnfaohfaagreatdoor", sum := "4208180dbe8331c6b47dcf8194dd7e7b75e23d6165815337032d2fe5cff1c7bd", func := "gristmill/gristmilllaw13.LiftFlat", spec := "liftFlat", inPlace := ["math.Float64frombits", "math.Float64bits", "internal/abi.NoEscape"], unfollowed := true, recurses := true, named := ["gristmill/api.ErrMany", "gristmill/api.ErrMain", "gristmill/api.ErrName", "gristmill/api.ErrForm", "gristmill/api.ErrDeep", "gristmill/num.prims", "internal/strconv.uint64pow10", "math/bits.deBruijn32tab", "math/bits.deBruijn64tab", "gristmill/api.ErrTwice", "gristmill/api.ErrNone", "gristmill/api.ErrArity"], loops := true, apart := false, laid := [("math/bits.deBruijn32tab", laid_math_bits_deBruijn32tab), ("math/bits.deBruijn64tab", laid_math_bits_deBruijn64tab), ("internal/strconv.uint64pow10", laid_internal_strconv_uint64pow10), ("gristmill/api.ErrMany", laid_gristmill_api_ErrMany), ("gristmill/api.ErrDeep", laid_gristmill_api_ErrDeep), ("gristmill/api.ErrForm", laid_gristmill_api_ErrForm), ("gristmill/api.ErrName", laid_gristmill_api_ErrName), ("gristmill/api.ErrTwice", laid_gristmill_api_ErrTwice), ("gristmill/api.ErrNone", laid_gristmill_api_ErrNone), ("gristmill/api.ErrArity", laid_gristmill_api_ErrArity), ("gristmill/api.ErrMain", laid_gristmill_api_ErrMain), ("gristmill/num.prims", laid_gristmill_num_prims)] }
def LiftFlatSaid : Prop := liftFlatRow.holds Tryz.pinned (OpenSpec.ofChange liftFlatSpec)

/-- ITS FALSE NEIGHBOUR: 'it returns false'. Refute it at one input. -/
def liftFlatWrong : ChangeSpec := { name := "liftFlat", fn := fun _ => fun
  | [d] => { results := [.lit (.bool false)], args := [d] }
  | _ => none }
def LiftFlatWrongFalsely : Prop := liftFlatRow.holds Tryz.pinned (OpenSpec.ofChange liftFlatWrong)

/- THE SECOND FORM. 'bulk': how many values and letters a reading holds, each counted each time it is reached (what is shared counts as often as it is met; a slice's spare places count too). A statement '..UptoSaid' is the law's where the arguments, and the package variables that the reading takes, are together of bulk at most 1048576: NARROWER than '..Said'. Prove '..Said' where nothing that the law and all that it calls make is longer than what came in: it says more and counts as full. Else prove '..UptoSaid'. A law counts once. -/
mutual
def uptoBulk {H : Type} : DataW H → Nat
  | .lit (.string bytes) => bytes.length + 1
  | .lit _ => 1
  | .nil => 1
  | .ptr d => uptoBulk d + 1
  | .slice elems spare => uptoBulkAll elems + uptoBulkAll spare + 1
  | .agg parts => uptoBulkAll parts + 1
  | .iface _ d => uptoBulk d + 1
  | .map entries => uptoBulkEntries entries + 1
  | .held _ => 1
def uptoBulkAll {H : Type} : List (DataW H) → Nat
  | [] => 0
  | d :: r => uptoBulk d + uptoBulkAll r
def uptoBulkEntries {H : Type} : List (Lit × DataW H) → Nat
  | [] => 0
  | x :: r => uptoBulkEntry x + uptoBulkEntries r
def uptoBulkEntry {H : Type} : Lit × DataW H → Nat
  | (.string bytes, d) => bytes.length + uptoBulk d + 1
  | (_, d) => uptoBulk d + 1
 end
def uptoSmall : (H : Type) → List (DataW H) → Bool := fun _ ds => decide (uptoBulkAll ds ≤ 1048576)
def OpenSpec.upto (s : _root_.Go.ChangeSpec) : _root_.Go.OpenSpec := { _root_.Go.OpenSpec.ofChange s with cond := some uptoSmall }

/-- 'gristmilllaw13.LiftFlat', WHERE WHAT IT READS IS OF BULK AT MOST 1048576: true; the input reads as it did. -/
def liftFlatUptoRow : OpenClaim := { program := "ytkfoohhnfaohfaagreatdoor", sum := "4208180dbe8331c6b47dcf8194dd7e7b75e23d6165815337032d2fe5cff1c7bd", func := "gristmill/gristmilllaw13.LiftFlat", spec := "liftFlat", inPlace := ["math.Float64frombits", "math.Float64bits", "internal/abi.NoEscape"], unfollowed := true, recurses := true, named := ["gristmill/api.ErrMany", "gristmill/api.ErrMain", "gristmill/api.ErrName", "gristmill/api.ErrForm", "gristmill/api.ErrDeep", "gristmill/num.prims", "internal/strconv.uint64pow10", "math/bits.deBruijn32tab", "math/bits.deBruijn64tab", "gristmill/api.ErrTwice", "gristmill/api.ErrNone", "gristmill/api.ErrArity"], loops := true, apart := false, laid := [("math/bits.deBruijn32tab", laid_math_bits_deBruijn32tab), ("math/bits.deBruijn64tab", laid_math_bits_deBruijn64tab), ("internal/strconv.uint64pow10", laid_internal_strconv_uint64pow10), ("gristmill/api.ErrMany", laid_gristmill_api_ErrMany), ("gristmill/api.ErrDeep", laid_gristmill_api_ErrDeep), ("gristmill/api.ErrForm", laid_gristmill_api_ErrForm), ("gristmill/api.ErrName", laid_gristmill_api_ErrName), ("gristmill/api.ErrTwice", laid_gristmill_api_ErrTwice), ("gristmill/api.ErrNone", laid_gristmill_api_ErrNone), ("gristmill/api.ErrArity", laid_gristmill_api_ErrArity), ("gristmill/api.ErrMain", laid_gristmill_api_ErrMain), ("gristmill/num.prims", laid_gristmill_num_prims)], narrowed := true }
def LiftFlatUptoSaid : Prop := liftFlatUptoRow.holds Tryz.pinned (OpenSpec.upto liftFlatSpec)

end Rows
end Go.Proofs.YtkfoohhnfaohfaaGreatDoor
