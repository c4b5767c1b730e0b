/-
  NARROWER THAN 'FOR EVERY INPUT', by the rows' own cells (each row's printed sentence says how): LexSays: laid · LexApart: laid · LexMany: laid · LexJoins: laid · LexNames: laid.
  DERIVED. THE GIVEN ROWS OF THIS SEAT. 5 by the template 'for every input the law returns true; each argument reads behind the call as it read before'; 0 by the template 'total and deterministic' (their statements: YtoobcaegnokdpaaDoorTotals.lean).
  GIVEN WITH THE SEED: the statements are not yours to turn. If you find one false, say at which input.
  Laid BY PROGRAM, IN A SANDBOX (cutbox-rows.mjs): the forced cells as the released guide's own fill.sh prints them over the translation 51bca186e8df692a… (all of the seat's roots in one cut). By AI agents, Wed Nov 11 2026. No macro, syntax, notation, axiom, sorry.
-/
import Derived.Test.YtoobcaegnokdpaaDoorChecked
import GoSem.Claim
import GoSem.ClaimJoined
import GoSem.ClaimMapViews
import Derived.JoinedTies
import Derived.KernelRfl
namespace Go.Proofs.YtoobcaegnokdpaaDoor
/- THE CELL 'sum', in the pinned program and in every row, IS THE sha256 OF THE DUMP (.gsa) THAT YtoobcaegnokdpaaDoorProg.lean LOADS. Nothing in Lean hashes anything: it is a label: what it is worth is what the hold of that sum in a sandbox is worth. -/
noncomputable def Tryd.pinned : Pinned := { name := "ytoobcaegnokdpaadoor", sum := "51bca186e8df692a558d1af2f88d89e3c32386479e83d48b3197f738f8d39003", checked := Tryd.checked }
namespace Rows
def none {H : Type} : Left H := { results := [], args := [] }

/- WHAT THE LISTED PACKAGE-LEVEL VARIABLES READ AS WHEN THE CALL BEGINS. Each datum BY PROGRAM (the guide's laid-datum.mjs) off the statement by which the dump's own 'gosem.cut.vars' lays the variable. In a bare row this is a premise. The card (YtoobcaegnokdpaaDoorCards.lean) ties it to the program's text. -/
def laid_gristmill_api_ErrMany {H : Type} : DataW H := .iface "*errors.errorString" (.ptr (.agg [.lit (.string [116, 111, 111, 32, 109, 97, 110, 121])]))
def laid_gristmill_api_ErrEnd {H : Type} : DataW H := .iface "*errors.errorString" (.ptr (.agg [.lit (.string [105, 116, 32, 101, 110, 100, 115, 32, 116, 111, 111, 32, 101, 97, 114, 108, 121])]))
def laid_gristmill_api_ErrShape {H : Type} : DataW H := .iface "*errors.errorString" (.ptr (.agg [.lit (.string [110, 111, 116, 32, 97, 115, 32, 105, 116, 32, 104, 97, 115, 32, 116, 111, 32, 98, 101])]))
def laid_gristmill_api_ErrRange {H : Type} : DataW H := .iface "*errors.errorString" (.ptr (.agg [.lit (.string [97, 32, 110, 117, 109, 98, 101, 114, 32, 111, 117, 116, 32, 111, 102, 32, 105, 116, 115, 32, 114, 97, 110, 103, 101])]))
def laid_gristmill_api_ErrDeep {H : Type} : DataW H := .iface "*errors.errorString" (.ptr (.agg [.lit (.string [116, 111, 111, 32, 100, 101, 101, 112])]))
def laid_gristmill_api_ErrOpen {H : Type} : DataW H := .iface "*errors.errorString" (.ptr (.agg [.lit (.string [97, 32, 98, 114, 97, 99, 107, 101, 116, 32, 116, 104, 97, 116, 32, 105, 115, 32, 110, 111, 116, 32, 99, 108, 111, 115, 101, 100])]))
def laid_gristmill_api_ErrClose {H : Type} : DataW H := .iface "*errors.errorString" (.ptr (.agg [.lit (.string [97, 32, 98, 114, 97, 99, 107, 101, 116, 32, 116, 104, 97, 116, 32, 119, 97, 115, 32, 110, 111, 116, 32, 111, 112, 101, 110, 101, 100])]))
def laid_gristmill_api_ErrForm {H : Type} : DataW H := .iface "*errors.errorString" (.ptr (.agg [.lit (.string [110, 111, 32, 115, 117, 99, 104, 32, 102, 111, 114, 109])]))
def laid_gristmill_api_ErrName {H : Type} : DataW H := .iface "*errors.errorString" (.ptr (.agg [.lit (.string [110, 111, 116, 32, 97, 32, 110, 97, 109, 101])]))
def laid_gristmill_api_ErrTwice {H : Type} : DataW H := .iface "*errors.errorString" (.ptr (.agg [.lit (.string [116, 104, 101, 114, 101, 32, 105, 115, 32, 111, 110, 101])]))
def laid_gristmill_api_ErrNone {H : Type} : DataW H := .iface "*errors.errorString" (.ptr (.agg [.lit (.string [116, 104, 101, 114, 101, 32, 105, 115, 32, 110, 111, 110, 101])]))
def laid_gristmill_api_ErrArity {H : Type} : DataW H := .iface "*errors.errorString" (.ptr (.agg [.lit (.string [110, 111, 116, 32, 97, 115, 32, 109, 97, 110, 121, 32, 97, 115, 32, 105, 116, 32, 116, 97, 107, 101, 115])]))
def laid_gristmill_api_ErrMain {H : Type} : DataW H := .iface "*errors.errorString" (.ptr (.agg [.lit (.string [110, 111, 32, 109, 97, 105, 110, 32, 119, 105, 116, 104, 111, 117, 116, 32, 112, 97, 114, 97, 109, 101, 116, 101, 114, 115])]))
def laid_gristmill_api_ErrType {H : Type} : DataW H := .iface "*errors.errorString" (.ptr (.agg [.lit (.string [105, 116, 32, 104, 97, 115, 32, 110, 111, 32, 116, 121, 112, 101])]))
def laid_gristmill_api_ErrBound {H : Type} : DataW H := .iface "*errors.errorString" (.ptr (.agg [.lit (.string [110, 111, 116, 32, 98, 111, 117, 110, 100, 44, 32, 111, 114, 32, 98, 111, 117, 110, 100, 32, 116, 119, 105, 99, 101])]))
def laid_gristmill_api_ErrTag {H : Type} : DataW H := .iface "*errors.errorString" (.ptr (.agg [.lit (.string [110, 111, 116, 32, 111, 102, 32, 116, 104, 97, 116, 32, 116, 97, 103])]))
def laid_gristmill_api_ErrWord {H : Type} : DataW H := .iface "*errors.errorString" (.ptr (.agg [.lit (.string [110, 111, 32, 115, 117, 99, 104, 32, 119, 111, 114, 100])]))
def laid_gristmill_api_ErrNumber {H : Type} : DataW H := .iface "*errors.errorString" (.ptr (.agg [.lit (.string [110, 111, 116, 32, 97, 32, 110, 117, 109, 98, 101, 114])]))

/-- 'gristmilllaw3.LexSays': WHATEVER THE INPUT: true; the input reads as it did. -/
def lexSaysSpec : ChangeSpec := { name := "lexSays", fn := fun _ => fun
  | [d1, d2] => { results := [.lit (.bool true)], args := [d1, d2] }
  | _ => none }
def lexSaysRow : OpenClaim := { program := "ytoobcaegnokdpaadoor", sum := "51bca186e8df692a558d1af2f88d89e3c32386479e83d48b3197f738f8d39003", func := "gristmill/gristmilllaw3.LexSays", spec := "lexSays", named := ["gristmill/api.ErrMany"], apart := false, laid := [("gristmill/api.ErrMany", laid_gristmill_api_ErrMany)] }
def LexSaysSaid : Prop := lexSaysRow.holds Tryd.pinned (OpenSpec.ofChange lexSaysSpec)

/-- ITS FALSE NEIGHBOUR: 'it returns false'. Refute it at one input. -/
def lexSaysWrong : ChangeSpec := { name := "lexSays", fn := fun _ => fun
  | [d1, d2] => { results := [.lit (.bool false)], args := [d1, d2] }
  | _ => none }
def LexSaysWrongFalsely : Prop := lexSaysRow.holds Tryd.pinned (OpenSpec.ofChange lexSaysWrong)

/-- 'gristmilllaw3.LexApart': WHATEVER THE INPUT: true; the input reads as it did. -/
def lexApartSpec : ChangeSpec := { name := "lexApart", fn := fun _ => fun
  | [d] => { results := [.lit (.bool true)], args := [d] }
  | _ => none }
def lexApartRow : OpenClaim := { program := "ytoobcaegnokdpaadoor", sum := "51bca186e8df692a558d1af2f88d89e3c32386479e83d48b3197f738f8d39003", func := "gristmill/gristmilllaw3.LexApart", spec := "lexApart", named := ["gristmill/api.ErrMany"], apart := false, laid := [("gristmill/api.ErrMany", laid_gristmill_api_ErrMany)] }
def LexApartSaid : Prop := lexApartRow.holds Tryd.pinned (OpenSpec.ofChange lexApartSpec)

/-- ITS FALSE NEIGHBOUR: 'it returns false'. Refute it at one input. -/
def lexApartWrong : ChangeSpec := { name := "lexApart", fn := fun _ => fun
  | [d] => { results := [.lit (.bool false)], args := [d] }
  | _ => none }
def LexApartWrongFalsely : Prop := lexApartRow.holds Tryd.pinned (OpenSpec.ofChange lexApartWrong)

/-- 'gristmilllaw3.LexMany': WHATEVER THE INPUT: true; the input reads as it did. -/
def lexManySpec : ChangeSpec := { name := "lexMany", fn := fun _ => fun
  | [d] => { results := [.lit (.bool true)], args := [d] }
  | _ => none }
def lexManyRow : OpenClaim := { program := "ytoobcaegnokdpaadoor", sum := "51bca186e8df692a558d1af2f88d89e3c32386479e83d48b3197f738f8d39003", func := "gristmill/gristmilllaw3.LexMany", spec := "lexMany", named := ["gristmill/api.ErrMany", "gristmill/api.ErrEnd", "gristmill/api.ErrShape", "gristmill/api.ErrRange", "gristmill/api.ErrDeep", "gristmill/api.ErrOpen", "gristmill/api.ErrClose", "gristmill/api.ErrForm", "gristmill/api.ErrName", "gristmill/api.ErrTwice", "gristmill/api.ErrNone", "gristmill/api.ErrArity", "gristmill/api.ErrMain", "gristmill/api.ErrType", "gristmill/api.ErrBound", "gristmill/api.ErrTag", "gristmill/api.ErrWord", "gristmill/api.ErrNumber"], apart := false, laid := [("gristmill/api.ErrEnd", laid_gristmill_api_ErrEnd), ("gristmill/api.ErrShape", laid_gristmill_api_ErrShape), ("gristmill/api.ErrRange", laid_gristmill_api_ErrRange), ("gristmill/api.ErrMany", laid_gristmill_api_ErrMany), ("gristmill/api.ErrDeep", laid_gristmill_api_ErrDeep), ("gristmill/api.ErrOpen", laid_gristmill_api_ErrOpen), ("gristmill/api.ErrClose", laid_gristmill_api_ErrClose), ("gristmill/api.ErrForm", laid_gristmill_api_ErrForm), ("gristmill/api.ErrName", laid_gristmill_api_ErrName), ("gristmill/api.ErrTwice", laid_gristmill_api_ErrTwice), ("gristmill/api.ErrNone", laid_gristmill_api_ErrNone), ("gristmill/api.ErrArity", laid_gristmill_api_ErrArity), ("gristmill/api.ErrMain", laid_gristmill_api_ErrMain), ("gristmill/api.ErrType", laid_gristmill_api_ErrType), ("gristmill/api.ErrBound", laid_gristmill_api_ErrBound), ("gristmill/api.ErrTag", laid_gristmill_api_ErrTag), ("gristmill/api.ErrWord", laid_gristmill_api_ErrWord), ("gristmill/api.ErrNumber", laid_gristmill_api_ErrNumber)] }
def LexManySaid : Prop := lexManyRow.holds Tryd.pinned (OpenSpec.ofChange lexManySpec)

/-- ITS FALSE NEIGHBOUR: 'it returns false'. Refute it at one input. -/
def lexManyWrong : ChangeSpec := { name := "lexMany", fn := fun _ => fun
  | [d] => { results := [.lit (.bool false)], args := [d] }
  | _ => none }
def LexManyWrongFalsely : Prop := lexManyRow.holds Tryd.pinned (OpenSpec.ofChange lexManyWrong)

/-- 'gristmilllaw3.LexJoins': WHATEVER THE INPUT: true; the input reads as it did. -/
def lexJoinsSpec : ChangeSpec := { name := "lexJoins", fn := fun _ => fun
  | [d1, d2] => { results := [.lit (.bool true)], args := [d1, d2] }
  | _ => none }
def lexJoinsRow : OpenClaim := { program := "ytoobcaegnokdpaadoor", sum := "51bca186e8df692a558d1af2f88d89e3c32386479e83d48b3197f738f8d39003", func := "gristmill/gristmilllaw3.LexJoins", spec := "lexJoins", named := ["gristmill/api.ErrMany"], apart := false, laid := [("gristmill/api.ErrMany", laid_gristmill_api_ErrMany)] }
def LexJoinsSaid : Prop := lexJoinsRow.holds Tryd.pinned (OpenSpec.ofChange lexJoinsSpec)

/-- ITS FALSE NEIGHBOUR: 'it returns false'. Refute it at one input. -/
def lexJoinsWrong : ChangeSpec := { name := "lexJoins", fn := fun _ => fun
  | [d1, d2] => { results := [.lit (.bool false)], args := [d1, d2] }
  | _ => none }
def LexJoinsWrongFalsely : Prop := lexJoinsRow.holds Tryd.pinned (OpenSpec.ofChange lexJoinsWrong)

/-- 'gristmilllaw3.LexNames': WHATEVER THE INPUT: true; the input reads as it did. -/
def lexNamesSpec : ChangeSpec := { name := "lexNames", fn := fun _ => fun
  | [d1, d2] => { results := [.lit (.bool true)], args := [d1, d2] }
  | _ => none }
def lexNamesRow : OpenClaim := { program := "ytoobcaegnokdpaadoor", sum := "51bca186e8df692a558d1af2f88d89e3c32386479e83d48b3197f738f8d39003", func := "gristmill/gristmilllaw3.LexNames", spec := "lexNames", named := ["gristmill/api.ErrMany"], apart := false, laid := [("gristmill/api.ErrMany", laid_gristmill_api_ErrMany)] }
def LexNamesSaid : Prop := lexNamesRow.holds Tryd.pinned (OpenSpec.ofChange lexNamesSpec)

/-- ITS FALSE NEIGHBOUR: 'it returns false'. Refute it at one input. -/
def lexNamesWrong : ChangeSpec := { name := "lexNames", fn := fun _ => fun
  | [d1, d2] => { results := [.lit (.bool false)], args := [d1, d2] }
  | _ => none }
def LexNamesWrongFalsely : Prop := lexNamesRow.holds Tryd.pinned (OpenSpec.ofChange lexNamesWrong)

/- THE SECOND FORM. 'bulk': how many values and letters a reading holds, each counted each time it is reached (what is shared counts as often as it is met; a slice's spare places count too). A statement '..UptoSaid' is the law's where the arguments, and the package variables that the reading takes, are together of bulk at most 1048576: NARROWER than '..Said'. Prove '..Said' where nothing that the law and all that it calls make is longer than what came in: it says more and counts as full. Else prove '..UptoSaid'. A law counts once. -/
mutual
def uptoBulk {H : Type} : DataW H → Nat
  | .lit (.string bytes) => bytes.length + 1
  | .lit _ => 1
  | .nil => 1
  | .ptr d => uptoBulk d + 1
  | .slice elems spare => uptoBulkAll elems + uptoBulkAll spare + 1
  | .agg parts => uptoBulkAll parts + 1
  | .iface _ d => uptoBulk d + 1
  | .map entries => uptoBulkEntries entries + 1
  | .held _ => 1
def uptoBulkAll {H : Type} : List (DataW H) → Nat
  | [] => 0
  | d :: r => uptoBulk d + uptoBulkAll r
def uptoBulkEntries {H : Type} : List (Lit × DataW H) → Nat
  | [] => 0
  | x :: r => uptoBulkEntry x + uptoBulkEntries r
def uptoBulkEntry {H : Type} : Lit × DataW H → Nat
  | (.string bytes, d) => bytes.length + uptoBulk d + 1
  | (_, d) => uptoBulk d + 1
 end
def uptoSmall : (H : Type) → List (DataW H) → Bool := fun _ ds => decide (uptoBulkAll ds ≤ 1048576)
def OpenSpec.upto (s : _root_.Go.ChangeSpec) : _root_.Go.OpenSpec := { _root_.Go.OpenSpec.ofChange s with cond := some uptoSmall }

/-- 'gristmilllaw3.LexSays', WHERE WHAT IT READS IS OF BULK AT MOST 1048576: true; the input reads as it did. -/
def lexSaysUptoRow : OpenClaim := { program := "ytoobcaegnokdpaadoor", sum := "51bca186e8df692a558d1af2f88d89e3c32386479e83d48b3197f738f8d39003", func := "gristmill/gristmilllaw3.LexSays", spec := "lexSays", named := ["gristmill/api.ErrMany"], apart := false, laid := [("gristmill/api.ErrMany", laid_gristmill_api_ErrMany)], narrowed := true }
def LexSaysUptoSaid : Prop := lexSaysUptoRow.holds Tryd.pinned (OpenSpec.upto lexSaysSpec)

/-- 'gristmilllaw3.LexApart', WHERE WHAT IT READS IS OF BULK AT MOST 1048576: true; the input reads as it did. -/
def lexApartUptoRow : OpenClaim := { program := "ytoobcaegnokdpaadoor", sum := "51bca186e8df692a558d1af2f88d89e3c32386479e83d48b3197f738f8d39003", func := "gristmill/gristmilllaw3.LexApart", spec := "lexApart", named := ["gristmill/api.ErrMany"], apart := false, laid := [("gristmill/api.ErrMany", laid_gristmill_api_ErrMany)], narrowed := true }
def LexApartUptoSaid : Prop := lexApartUptoRow.holds Tryd.pinned (OpenSpec.upto lexApartSpec)

/-- 'gristmilllaw3.LexMany', WHERE WHAT IT READS IS OF BULK AT MOST 1048576: true; the input reads as it did. -/
def lexManyUptoRow : OpenClaim := { program := "ytoobcaegnokdpaadoor", sum := "51bca186e8df692a558d1af2f88d89e3c32386479e83d48b3197f738f8d39003", func := "gristmill/gristmilllaw3.LexMany", spec := "lexMany", named := ["gristmill/api.ErrMany", "gristmill/api.ErrEnd", "gristmill/api.ErrShape", "gristmill/api.ErrRange", "gristmill/api.ErrDeep", "gristmill/api.ErrOpen", "gristmill/api.ErrClose", "gristmill/api.ErrForm", "gristmill/api.ErrName", "gristmill/api.ErrTwice", "gristmill/api.ErrNone", "gristmill/api.ErrArity", "gristmill/api.ErrMain", "gristmill/api.ErrType", "gristmill/api.ErrBound", "gristmill/api.ErrTag", "gristmill/api.ErrWord", "gristmill/api.ErrNumber"], apart := false, laid := [("gristmill/api.ErrEnd", laid_gristmill_api_ErrEnd), ("gristmill/api.ErrShape", laid_gristmill_api_ErrShape), ("gristmill/api.ErrRange", laid_gristmill_api_ErrRange), ("gristmill/api.ErrMany", laid_gristmill_api_ErrMany), ("gristmill/api.ErrDeep", laid_gristmill_api_ErrDeep), ("gristmill/api.ErrOpen", laid_gristmill_api_ErrOpen), ("gristmill/api.ErrClose", laid_gristmill_api_ErrClose), ("gristmill/api.ErrForm", laid_gristmill_api_ErrForm), ("gristmill/api.ErrName", laid_gristmill_api_ErrName), ("gristmill/api.ErrTwice", laid_gristmill_api_ErrTwice), ("gristmill/api.ErrNone", laid_gristmill_api_ErrNone), ("gristmill/api.ErrArity", laid_gristmill_api_ErrArity), ("gristmill/api.ErrMain", laid_gristmill_api_ErrMain), ("gristmill/api.ErrType", laid_gristmill_api_ErrType), ("gristmill/api.ErrBound", laid_gristmill_api_ErrBound), ("gristmill/api.ErrTag", laid_gristmill_api_ErrTag), ("gristmill/api.ErrWord", laid_gristmill_api_ErrWord), ("gristmill/api.ErrNumber", laid_gristmill_api_ErrNumber)], narrowed := true }
def LexManyUptoSaid : Prop := lexManyUptoRow.holds Tryd.pinned (OpenSpec.upto lexManySpec)

/-- 'gristmilllaw3.LexJoins', WHERE WHAT IT READS IS OF BULK AT MOST 1048576: true; the input reads as it did. -/
def lexJoinsUptoRow : OpenClaim := { program := "ytoobcaegnokdpaadoor", sum := "51bca186e8df692a558d1af2f88d89e3c32386479e83d48b3197f738f8d39003", func := "gristmill/gristmilllaw3.LexJoins", spec := "lexJoins", named := ["gristmill/api.ErrMany"], apart := false, laid := [("gristmill/api.ErrMany", laid_gristmill_api_ErrMany)], narrowed := true }
def LexJoinsUptoSaid : Prop := lexJoinsUptoRow.holds Tryd.pinned (OpenSpec.upto lexJoinsSpec)

/-- 'gristmilllaw3.LexNames', WHERE WHAT IT READS IS OF BULK AT MOST 1048576: true; the input reads as it did. -/
def lexNamesUptoRow : OpenClaim := { program := "ytoobcaegnokdpaadoor", sum := "51bca186e8df692a558d1af2f88d89e3c32386479e83d48b3197f738f8d39003", func := "gristmill/gristmilllaw3.LexNames", spec := "lexNames", named := ["gristmill/api.ErrMany"], apart := false, laid := [("gristmill/api.ErrMany", laid_gristmill_api_ErrMany)], narrowed := true }
def LexNamesUptoSaid : Prop := lexNamesUptoRow.holds Tryd.pinned (OpenSpec.upto lexNamesSpec)

end Rows
end Go.Proofs.YtoobcaegnokdpaaDoor
