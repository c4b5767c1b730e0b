/- W6 of stage 1: floats. -/
import Derived.ShutString
import Derived.Test.YtdmgaaaomleojaaGreatDoorFlW5
namespace Go.Proofs.YtdmgaaaomleojaaGreatDoor.Fl
open Go.RowKit Ieee
/-- The text of a float. -/
def textL (a : Nat) : List UInt8 :=
  if nanB a then [110, 97, 110] else if a = 9218868437227405312 then [105, 110, 102] else if a = 18442240474082181120 then [45, 105, 110, 102]
  else (if sgB a then [45] else []) ++ (Lib.decDigits (oddM a) ++ 112 :: Lib.itoa (oddE a))
set_option maxRecDepth 100000 in
set_option maxHeartbeats 400000 in
theorem text_nan (a : Nat) (w : World) (h : nanB a = true) :
    Calls Tryz.prog 38 #[.int .u64 a] w (Grew (.string ⟨#[110, 97, 110]⟩) w) := by
  have H := Lib.hid h
  clear h
  have fb := from_bits
  go_enter Tryz.func38, Tryz.ntmps38
  go_wp2_with (first | (go_at_call 41; refine (isnan_yes _ _ H.out).mono ?_; rintro e w' ⟨rfl, rfl⟩))
  go_ret
  exact ⟨rfl, Below.refl _ _⟩
theorem isinf_one_t (a : Nat) (ha : a < 18446744073709551616) (b : Bool) (h : decide (a = 9218868437227405312) = b) (w : World) :
    Calls Tryz.prog 56 #[.float .f64 a, .int .i64 1] w fun e w' => e = .returned (.bool b) ∧ w = w' := by rw [← h]; exact isinf_one a ha w
theorem isinf_minus_t (a : Nat) (ha : a < 18446744073709551616) (b : Bool) (h : decide (a = 18442240474082181120) = b) (w : World) :
    Calls Tryz.prog 56 #[.float .f64 a, .int .i64 (-1)] w fun e w' => e = .returned (.bool b) ∧ w = w' := by rw [← h]; exact isinf_minus a ha w
set_option maxRecDepth 100000 in
set_option maxHeartbeats 400000 in
theorem text_inf (a : Nat) (w : World)
    (h0 : ∀ w, Calls Tryz.prog 41 #[.float .f64 a] w fun e w' => e = .returned (.bool false) ∧ w = w')
    (h1 : ∀ w, Calls Tryz.prog 56 #[.float .f64 a, .int .i64 1] w fun e w' => e = .returned (.bool true) ∧ w = w') :
    Calls Tryz.prog 38 #[.int .u64 a] w (Grew (.string ⟨#[105, 110, 102]⟩) w) := by
  have H0 := Lib.hid h0
  have H1 := Lib.hid h1
  clear h0 h1
  have fb := from_bits
  go_enter Tryz.func38, Tryz.ntmps38
  go_wp2_with (first | (go_at_call 41; refine (H0.out _).mono ?_; rintro e w' ⟨rfl, rfl⟩) | (go_at_call 56; refine (H1.out _).mono ?_; rintro e w' ⟨rfl, rfl⟩))
  go_ret
  exact ⟨rfl, Below.refl _ _⟩
set_option maxRecDepth 100000 in
set_option maxHeartbeats 400000 in
theorem text_minus (a : Nat) (w : World)
    (h0 : ∀ w, Calls Tryz.prog 41 #[.float .f64 a] w fun e w' => e = .returned (.bool false) ∧ w = w')
    (h1 : ∀ w, Calls Tryz.prog 56 #[.float .f64 a, .int .i64 1] w fun e w' => e = .returned (.bool false) ∧ w = w')
    (h2 : ∀ w, Calls Tryz.prog 56 #[.float .f64 a, .int .i64 (-1)] w fun e w' => e = .returned (.bool true) ∧ w = w') :
    Calls Tryz.prog 38 #[.int .u64 a] w (Grew (.string ⟨#[45, 105, 110, 102]⟩) w) := by
  have H0 := Lib.hid h0
  have H1 := Lib.hid h1
  have H2 := Lib.hid h2
  clear h0 h1 h2
  have fb := from_bits
  go_enter Tryz.func38, Tryz.ntmps38
  go_wp2_with fail
  refine (H0.out _).mono ?_
  rintro e w' ⟨rfl, rfl⟩
  go_wp2_with fail
  refine (H1.out _).mono ?_
  rintro e w' ⟨rfl, rfl⟩
  go_wp2_with fail
  refine (H2.out _).mono ?_
  rintro e w' ⟨rfl, rfl⟩
  go_wp2_with fail
  go_ret
  exact ⟨rfl, Below.refl _ _⟩
set_option maxRecDepth 100000 in
set_option maxHeartbeats 400000 in
theorem text_fin (a m : Nat) (n : Int) (sg : Bool) (w : World) (x y : ByteArray) (hx : x.size ≤ 1000) (hy : y.size ≤ 1000)
    (h0 : ∀ w, Calls Tryz.prog 41 #[.float .f64 a] w fun e w' => e = .returned (.bool false) ∧ w = w')
    (h1 : ∀ w, Calls Tryz.prog 56 #[.float .f64 a, .int .i64 1] w fun e w' => e = .returned (.bool false) ∧ w = w')
    (h2 : ∀ w, Calls Tryz.prog 56 #[.float .f64 a, .int .i64 (-1)] w fun e w' => e = .returned (.bool false) ∧ w = w')
    (h3 : ∀ w, Calls Tryz.prog 57 #[.float .f64 a] w fun e w' => e = .returned (.bool sg) ∧ w = w')
    (h4 : Calls Tryz.prog 58 #[.int .u64 a] w fun e w' => e = .returned (.tuple #[.int .u64 m, .int .i64 n]) ∧ w = w')
    (h5 : Calls Tryz.prog 59 #[.int .u64 m, .int .i64 10] w (Grew (.string x) w))
    (h6 : ∀ w1, Below w.heap.size w w1 → Calls Tryz.prog 60 #[.int .i64 n] w1 (Grew (.string y) w1)) :
    Calls Tryz.prog 38 #[.int .u64 a] w (Grew (.string ((⟨if sg then #[45] else #[]⟩ : ByteArray) ++ x ++ ⟨#[112]⟩ ++ y)) w) := by
  have H0 := Lib.hid h0
  have H1 := Lib.hid h1
  have H2 := Lib.hid h2
  have H3 := Lib.hid h3
  have H4 := Lib.hid h4
  have H5 := Lib.hid h5
  have H6 := Lib.hid h6
  clear h0 h1 h2 h3 h4 h5 h6
  have fb := from_bits
  cases sg
  all_goals
    go_enter Tryz.func38, Tryz.ntmps38
    go_wp2_with fail
    refine (H0.out _).mono ?_
    rintro e w' ⟨rfl, rfl⟩
    go_wp2_with fail
    refine (H1.out _).mono ?_
    rintro e w' ⟨rfl, rfl⟩
    go_wp2_with fail
    refine (H2.out _).mono ?_
    rintro e w' ⟨rfl, rfl⟩
    go_wp2_with fail
    refine (H3.out _).mono ?_
    rintro e w' ⟨rfl, rfl⟩
    go_wp2_with fail
    refine H4.out.mono ?_
    rintro e w' ⟨rfl, rfl⟩
    go_wp2_with fail
    refine H5.out.mono ?_
    rintro e w1 ⟨rfl, hb1⟩
    go_wp2_with fail
    refine (H6.out w1 hb1).mono ?_
    rintro e w2 ⟨rfl, hb2⟩
    go_wp2_with fail
    go_ret
  · refine ⟨?_, hb1.trans (hb2.mono hb1.size)⟩
    rfl
  · refine ⟨?_, hb1.trans (hb2.mono hb1.size)⟩
    rfl
theorem four_join (l X Y : List UInt8) : (⟨l.toArray⟩ ++ ⟨X.toArray⟩ ++ ⟨#[112]⟩ ++ ⟨Y.toArray⟩ : ByteArray) = ⟨(l ++ (X ++ 112 :: Y)).toArray⟩ := by
  apply ByteArray.ext
  simp [ByteArray.data_append]
theorem nDigits_le (u : Nat) (h : u < 18446744073709551616) : Lib.nDigits u ≤ 20 := by
  by_cases h0 : u = 0
  · subst h0; unfold Lib.nDigits; simp
  · have := Lib.numDigits_eq u (by omega) h
    split at this <;> omega
theorem itoa_len (n : Int) (h0 : -9223372036854775808 ≤ n) (h1 : n ≤ 9223372036854775807) : (Lib.itoa n).length ≤ 21 := by
  unfold Lib.itoa
  split
  · rw [List.length_cons, Lib.decDigits_length]
    have := nDigits_le n.natAbs (by omega)
    omega
  · rw [Lib.decDigits_length]
    have := nDigits_le n.toNat (by omega)
    omega
theorem magOf_lt (a : Nat) : magOf a < 9007199254740992 := by unfold magOf; split <;> omega
theorem oddM_lt (a : Nat) : oddM a < 9007199254740992 := by
  unfold oddM
  split
  · omega
  · exact Nat.lt_of_le_of_lt (Nat.div_le_self _ _) (magOf_lt a)
theorem oddE_bd (a : Nat) : -1074 ≤ oddE a ∧ oddE a ≤ 1100 := by
  unfold oddE
  split
  · omega
  · rename_i h
    have := (Lib.lowest_bit 64 (magOf a) h (Nat.lt_trans (magOf_lt a) (by decide))).2
    unfold expOf
    split <;> omega
/-- The tables that a text's making reads. -/
structure Tabs (w : World) : Prop where
  bruijn : TabAt 4 Lib.deBruijn64tab w
  pow : Lib.TabIs Tryz.prog w "internal/strconv.uint64pow10" .u64 Lib.pow10Tab
theorem glob3 : Tryz.prog.globalNamed "internal/strconv.uint64pow10" = some 5 := by kernel_rfl
theorem Tabs.below {w w' : World} (h : Tabs w) (hb : Below w.heap.size w w') : Tabs w' :=
  ⟨fun j hj => by
    have hc := h.bruijn j hj
    have h2 : 4 < w.heap.size := by
      rcases Nat.lt_or_ge 4 w.heap.size with h' | h'
      · exact h'
      · simp [World.cell?, Array.getElem?_eq_none h'] at hc
    rw [hb.cell (p := ⟨4, j, none⟩) h2]; exact hc,
   Joins.tab_stays glob3 h.pow hb (Nat.le_refl _)⟩
/-- flo.Text, of any word. -/
theorem text_any (a : Nat) (ha : a < 18446744073709551616) (w : World) (ht : Tabs w) :
    Calls Tryz.prog 38 #[.int .u64 a] w (Grew (.string ⟨(textL a).toArray⟩) w) := by
  unfold textL
  cases hn : nanB a
  · simp only [Bool.false_eq_true, if_false]
    have h0 := fun w => isnan_no a w hn
    by_cases h1 : a = 9218868437227405312
    · rw [if_pos h1]
      exact text_inf a w h0 (fun w => isinf_one_t a ha true (by simp [h1]) w)
    · rw [if_neg h1]
      have g1 := fun w => isinf_one_t a ha false (by simp [h1]) w
      by_cases h2 : a = 18442240474082181120
      · rw [if_pos h2]
        exact text_minus a w h0 g1 (fun w => isinf_minus_t a ha true (by simp [h2]) w)
      · rw [if_neg h2]
        have hM := oddM_lt a
        have hE := oddE_bd a
        have := text_fin a (oddM a) (oddE a) (sgB a) w ⟨(Lib.decDigits (oddM a)).toArray⟩ ⟨(Lib.itoa (oddE a)).toArray⟩
          (by rw [size_of_list, Lib.decDigits_length]; have := nDigits_le (oddM a) (by omega); omega)
          (by rw [size_of_list]; have := itoa_len (oddE a) (by omega) (by omega); omega)
          h0 g1 (fun w => isinf_minus_t a ha false (by simp [h2]) w) (fun w => signbit_any a ha w) (odd_any a ha w ht.bruijn)
          (fmt_any (oddM a) (by omega) w ht.pow) (fun w1 hb => itoa_any (oddE a) (by omega) (by omega) w1 (ht.below hb).pow)
        rw [show (if sgB a = true then #[45] else #[] : Array UInt8) = (if sgB a = true then [45] else [] : List UInt8).toArray by split <;> rfl, four_join] at this
        exact this
  · simp only [if_true]
    exact text_nan a w hn
end Go.Proofs.YtdmgaaaomleojaaGreatDoor.Fl
