import Derived.Test.YtdmgaaaomleojaaGreatDoorO13
import Derived.Test.YtdmgaaaomleojaaGreatDoorObsFloatsA
import Derived.ProofKit
import Derived.LaidMore
import Derived.OpenShut
import Derived.Stop.Joined
import Derived.Stop.LaidErr
/- ObsFloats: the law answers true. Conditions: the tables and the errors of the library stand; the arguments are words of 64 bits; first answers true. -/
namespace Go.Proofs.YtdmgaaaomleojaaGreatDoor
open Go.RowKit

theorem wrap_back (A : Nat) (hA : A < 18446744073709551616) : IntKind.u64.wrap (IntKind.i64.wrap (A : Int)) = (A : Int) := by
  simp only [IntKind.wrap, IntKind.bits, IntKind.signed]
  simp
  omega
theorem wrap_rg (A : Nat) (hA : A < 18446744073709551616) : -9223372036854775808 ≤ IntKind.i64.wrap (A : Int) ∧ IntKind.i64.wrap (A : Int) ≤ 9223372036854775807 := by
  simp only [IntKind.wrap, IntKind.bits, IntKind.signed]
  simp
  omega
theorem canon2 (a : Nat) : Fl.canonN (Fl.canonN a) = Fl.canonN a := by
  cases hx : Fl.nanB a
  · rw [Fl.canon_of_num hx, Fl.canon_of_num hx]
  · rw [Fl.canon_of_nan hx, Fl.canon_of_nan (by decide)]
theorem arr_toList (l : List UInt8) : ByteArray.toList ⟨l.toArray⟩ = l := by rw [ByteArray.toList_eq]
theorem text_floats (A : Nat) (hA : A < 18446744073709551616) (hc : Fl.canonN A = A) (w : World) (hw : Fl.All w) : Calls Tryz.prog 7 #[leafV 2 (IntKind.i64.wrap (A : Int))] w (Grew (.string ⟨(Fl.textL A).toArray⟩) w) := by
  have hk := okt_text A hA
  refine Text_leaf 2 _ _ w ?_ (by have := hk.small; omega) (fun w1 _ => Valid_flo _ A A true (wrap_back A hA) hc (by simp) w1) fun w1 hb => word_flo _ A (wrap_back A hA) _ w1 fun w2 hb2 => Fl.text_any A hA w2 ((hw.below hb).below hb2).tabs
  intro e
  apply hk.ne
  have : (⟨(Fl.textL A).toArray⟩ : ByteArray).data.toList.length = 0 := by rw [← Lib.size_eq]; exact e
  exact List.length_eq_zero_iff.1 this
theorem text_ints (n : Int) (h0 : -9223372036854775808 ≤ n) (h1 : n ≤ 9223372036854775807) (w : World) (hw : Fl.All w) : Calls Tryz.prog 7 #[leafV 1 n] w (Grew (.string ⟨(Lib.itoa n).toArray⟩) w) := by
  have hk := okt_itoa n h0 h1
  refine Text_leaf 1 _ _ w ?_ (by have := hk.small; omega) (fun w1 _ => Valid_int _ w1) fun w1 hb => word_int _ _ w1 fun w2 hb2 => text_any n h0 h1 w2 (all_tabs ((hw.below hb).below hb2))
  intro e
  apply hk.ne
  have : (⟨(Lib.itoa n).toArray⟩ : ByteArray).data.toList.length = 0 := by rw [← Lib.size_eq]; exact e
  exact List.length_eq_zero_iff.1 this
theorem parse_floats (A : Nat) (hA : A < 18446744073709551616) (hc : Fl.canonN A = A) (w : World) (hw : Fl.All w) : Calls Tryz.prog 6 #[.string ⟨(Fl.textL A).toArray⟩] w (Grew (.tuple #[leafV 2 (IntKind.i64.wrap (A : Int)), .nilIface]) w) :=
  Parse_one _ 2 _ w (fun w1 hb => read_one _ (okt_text A hA) 2 _ w1 fun w2 hb2 => ofWord_flo _ A A _ hA rfl hc rfl w2 ((hw.below hb).below hb2)) (fun w1 _ => Valid_flo _ A A true (wrap_back A hA) hc (by simp) w1)
theorem parse_ints (n : Int) (h0 : -9223372036854775808 ≤ n) (h1 : n ≤ 9223372036854775807) (w : World) (hw : Fl.All w) : Calls Tryz.prog 6 #[.string ⟨(Lib.itoa n).toArray⟩] w (Grew (.tuple #[leafV 1 n, .nilIface]) w) :=
  Parse_one _ 1 _ w (fun w1 hb => read_one _ (okt_itoa n h0 h1) 1 _ w1 fun w2 hb2 => ofWord_int _ n (okt_itoa n h0 h1) (NumIs.itoa n h0 h1) w2 ((hw.below hb).below hb2)) (fun w1 _ => Valid_int _ w1)

theorem obsFloats_any (a b : Nat) (ha : a < 18446744073709551616) (hb : b < 18446744073709551616) (w : World)
    (ht : Fl.All w ∧ Calls Tryz.prog 4 #[] w (Grew (.bool true) w)) :
    Calls Tryz.prog 3 #[.int .u64 a, .int .u64 b] w (Grew (.bool true) w) := by
  obtain ⟨hw, hf⟩ := ht
  have hA := Fl.canon_lt a ha
  have hC := Fl.canon_lt b hb
  have cA := canon2 a
  have cC := canon2 b
  have rA := wrap_rg _ hA
  have iff : (IntKind.i64.wrap (Fl.canonN a : Int) = IntKind.i64.wrap (Fl.canonN b : Int)) ↔ ((Fl.canonN a : Int) = (Fl.canonN b : Int)) := by
    constructor
    · intro e
      rw [← wrap_back _ hA, ← wrap_back _ hC, e]
    · intro e; rw [e]
  refine floats_core a b (Fl.canonN a) (Fl.canonN b) _ _ ⟨(Fl.textL (Fl.canonN a)).toArray⟩ ⟨(Fl.textL (Fl.canonN b)).toArray⟩ ⟨(Lib.itoa (IntKind.i64.wrap (Fl.canonN a : Int))).toArray⟩ _ w
    (fun w1 => Fl.rcanon_any a ha w1) (fun w1 => Fl.rcanon_any b hb w1) rfl rfl rfl ?_ ?_ hf
    (fun w1 h => text_floats _ hA cA w1 (hw.below h)) (fun w1 h => text_ints _ rA.1 rA.2 w1 (hw.below h)) (fun w1 h => text_floats _ hC cC w1 (hw.below h))
    (fun w1 h => parse_floats _ hA cA w1 (hw.below h)) (fun w1 h => parse_ints _ rA.1 rA.2 w1 (hw.below h)) ?_ ?_ ?_ ?_ ?_ ?_
  · rw [arr_toList, arr_toList]
    have h1 := Fl.textL_inj _ _ hA hC
    rw [cA, cC] at h1
    rw [Bool.eq_iff_iff, beq_iff_eq, beq_iff_eq, h1]
    exact ⟨fun e => by rw [e], fun e => by omega⟩
  · rw [arr_toList, arr_toList, beq_eq_false_iff_ne]
    intro e
    exact text_nonum _ hA (IntKind.i64.wrap (Fl.canonN a : Int)) (by rw [e]; exact NumIs.itoa _ rA.1 rA.2)
  · intro w1
    have := Same_leaf 2 (IntKind.i64.wrap (Fl.canonN a : Int)) 2 (IntKind.i64.wrap (Fl.canonN a : Int)) (by omega) w1
    simpa using this
  · intro w1
    have := Same_leaf 1 (IntKind.i64.wrap (Fl.canonN a : Int)) 1 (IntKind.i64.wrap (Fl.canonN a : Int)) (by omega) w1
    simpa using this
  · intro w1
    have := Same_leaf 2 (IntKind.i64.wrap (Fl.canonN a : Int)) 2 (IntKind.i64.wrap (Fl.canonN b : Int)) (by omega) w1
    have e : ((2 : Int) == 2 && IntKind.i64.wrap (Fl.canonN a : Int) == IntKind.i64.wrap (Fl.canonN b : Int)) = ((Fl.canonN a : Int) == (Fl.canonN b : Int)) := by
      rw [Bool.eq_iff_iff]; simp only [Bool.and_eq_true, beq_iff_eq, true_and]; simpa using iff
    rw [e] at this
    exact this
  · intro w1
    have := Same_leaf 2 (IntKind.i64.wrap (Fl.canonN a : Int)) 1 (IntKind.i64.wrap (Fl.canonN a : Int)) (by omega) w1
    simpa using this
  · intro w1
    exact Valid_flo 9218868437227405313 9218868437227405313 9221120237041090560 false (by decide) (Fl.canon_of_nan (by decide)) (by decide) w1
  · intro w1
    exact Valid_flo _ _ _ true (wrap_back _ hA) cA (by simp) w1
end Go.Proofs.YtdmgaaaomleojaaGreatDoor
/- ObsFloats: what the listed variables' condition gives the walk. Conditions: the listed variables read as start-up lays them. -/
namespace Go.Proofs.YtdmgaaaomleojaaGreatDoor
open Go.ChangeShapes Go.WideShapes Go.ChangeAt Go.RowKit

theorem own : ownKnob Tryz.prog.godebug = none := by kernel_rfl
theorem nat_of_u64 {n : Int} (h : (Lit.int .u64 n).wf = true) : ∃ a : Nat, n = a ∧ a < 18446744073709551616 := by
  simp [Lit.wf, IntKind.min, IntKind.max, IntKind.signed, IntKind.bits] at h
  exact ⟨n.toNat, by omega, by omega⟩
theorem obsFloats_tabsOf {W : World} (h : laidMet Tryz.prog Rows.obsFloatsRow.laid W) : Fl.Tabs W := by
  have h0 : laidMet Tryz.prog (("math/bits.deBruijn32tab", Rows.laid_math_bits_deBruijn32tab) :: ("math/bits.deBruijn64tab", Rows.laid_math_bits_deBruijn64tab) :: ("internal/strconv.uint64pow10", Rows.laid_internal_strconv_uint64pow10) :: Rows.obsFloatsRow.laid.drop 3) W := h
  have h1 := h0.tail
  have h2 := h1.tail
  have e1 : (Rows.laid_math_bits_deBruijn64tab : DataW Unit) = Lib.tabData .u8 (Lib.deBruijn64tab.map Int.ofNat) := rfl
  have e2 : (Rows.laid_internal_strconv_uint64pow10 : DataW Unit) = Lib.tabData .u64 Lib.pow10Tab := rfl
  rw [e1] at h1
  rw [e2] at h2
  have g2 : Tryz.prog.globalNamed "math/bits.deBruijn64tab" = some 4 := by kernel_rfl
  have t1 := Lib.tabIs_of_head g2 (t := 124) (by kernel_rfl) Tryz.underlying124 Tryz.underlying5 (by kernel_rfl) (by kernel_rfl) h1
  have t2 := Lib.tabIs_of_head Fl.glob3 (t := 131) (by kernel_rfl) Tryz.underlying131 Tryz.underlying22 (by kernel_rfl) (by kernel_rfl) h2
  refine ⟨fun j hj => ?_, t2⟩
  have hc := t1.cell g2 j (by rw [List.length_map]; exact hj)
  rw [hc]
  congr 2
  simp [List.getD]
  cases Lib.deBruijn64tab[j]? <;> rfl
theorem obsFloats_facts {W : World} (h : laidMet Tryz.prog Rows.obsFloatsRow.laid W) : Fl.All W ∧ Calls Tryz.prog 4 #[] W (Grew (.bool true) W) := by
  refine ⟨⟨obsFloats_tabsOf h, ?_⟩, obsFloats_first W fun sy => obsFloats_starts h sy⟩
  obtain ⟨a0, s0⟩ := sent1 (n := "strconv.ErrRange") (text := [118, 97, 108, 117, 101, 32, 111, 117, 116, 32, 111, 102, 32, 114, 97, 110, 103, 101]) (laid_drop 4 h) (g := 7) (by kernel_rfl) (by kernel_rfl)
  obtain ⟨a1, s1⟩ := sent1 (n := "strconv.ErrSyntax") (text := [105, 110, 118, 97, 108, 105, 100, 32, 115, 121, 110, 116, 97, 120]) (laid_drop 5 h) (g := 6) (by kernel_rfl) (by kernel_rfl)
  obtain ⟨a3, s3⟩ := sent1 (n := "gristmill/api.ErrNumber") (text := [110, 111, 116, 32, 97, 32, 110, 117, 109, 98, 101, 114]) (laid_drop 7 h) (g := 3) (by kernel_rfl) (by kernel_rfl)
  exact ⟨⟨_, _, s1.1⟩, ⟨_, _, s0.1⟩, ⟨_, _, s3.1⟩⟩
end Go.Proofs.YtdmgaaaomleojaaGreatDoor
