/- FloBack: the walk of the law, out of the contracts of what it calls. Conditions: the two tables and the errors' variables as start-up lays them; 64 bits. -/
import Derived.Test.YtpdiajagdehfkaaDoorW18
namespace Go.Proofs.YtpdiajagdehfkaaDoor
open Go.RowKit Ieee

set_option maxRecDepth 100000 in
set_option maxHeartbeats 1000000 in
theorem back_long (a b : Nat) (s : ByteArray) (w : World) (hl : 60 < s.size) (h0 : Calls Tryd.prog 10 #[] w (Grew (.bool true) w)) :
    Calls Tryd.prog 4 #[.int .u64 a, .int .u64 b, .string s] w (Grew (.bool true) w) := by
  have H0 := Lib.hid h0
  clear h0
  go_enter Tryd.func4, Tryd.ntmps4
  go_wp2_with fail
  refine H0.out.mono ?_
  rintro e w0 ⟨rfl, hb0⟩
  go_wp2_with fail
  go_ret
  exact ⟨rfl, hb0⟩

set_option maxRecDepth 100000 in
set_option maxHeartbeats 4000000 in
theorem back_none (a b ca cb : Nat) (s X Y : ByteArray) (same : Bool) (tp : TypeId) (p : Value) (w : World) (hl : s.size ≤ 60)
    (hab : ((ca : Int) == (cb : Int)) = same) (hXY : (X.toList == Y.toList) = same)
    (h0 : Calls Tryd.prog 10 #[] w (Grew (.bool true) w))
    (h1 : ∀ w1, Below w.heap.size w w1 → Calls Tryd.prog 24 #[.int .u64 a] w1 (Grew (.string X) w1))
    (h2 : ∀ w1, Below w.heap.size w w1 → Calls Tryd.prog 17 #[.string X] w1 (Ret2 (.int .u64 ca) .nilIface w1))
    (h3 : ∀ w, Calls Tryd.prog 20 #[.int .u64 a] w fun e w' => e = .returned (.int .u64 ca) ∧ w = w')
    (h4 : ∀ w, Calls Tryd.prog 20 #[.int .u64 b] w fun e w' => e = .returned (.int .u64 cb) ∧ w = w')
    (h5 : ∀ w1, Below w.heap.size w w1 → Calls Tryd.prog 17 #[.string s] w1 (Ret2 (.int .u64 0) (.iface tp p) w1))
    (h6 : ∀ w1, Below w.heap.size w w1 → Calls Tryd.prog 24 #[.int .u64 b] w1 (Grew (.string Y) w1))
    :
    Calls Tryd.prog 4 #[.int .u64 a, .int .u64 b, .string s] w (Grew (.bool true) w) := by
  have H0 := Lib.hid h0
  have H1 := Lib.hid h1
  have H2 := Lib.hid h2
  have H3 := Lib.hid h3
  have H4 := Lib.hid h4
  have H5 := Lib.hid h5
  have H6 := Lib.hid h6
  clear h0 h1 h2 h3 h4 h5 h6
  cases same
  all_goals
    go_enter Tryd.func4, Tryd.ntmps4
    go_wp2_with fail
    refine H0.out.mono ?_
    rintro e w0 ⟨rfl, hb0⟩
    go_wp2_with fail
    refine (H1.out w0 hb0).mono ?_
    rintro e w1 ⟨rfl, hc1⟩
    have hb1 := hb0.trans (hc1.mono hb0.size)
    clear hc1
    go_wp2_with fail
    refine (H2.out w1 hb1).mono ?_
    rintro e w2 ⟨rfl, hc2⟩
    have hb2 := hb1.trans (hc2.mono hb1.size)
    clear hc2
    go_wp2_with fail
    refine (H3.out _).mono ?_
    rintro e w' ⟨rfl, rfl⟩
    go_wp2_with fail
    refine (H4.out _).mono ?_
    rintro e w' ⟨rfl, rfl⟩
    go_wp2_with fail
    refine (H5.out w2 hb2).mono ?_
    rintro e w3 ⟨rfl, hc3⟩
    have hb3 := hb2.trans (hc3.mono hb2.size)
    clear hc3
    go_wp2_with fail
    refine (H3.out _).mono ?_
    rintro e w' ⟨rfl, rfl⟩
    go_wp2_with fail
    refine (H1.out w3 hb3).mono ?_
    rintro e w4 ⟨rfl, hc4⟩
    have hb4 := hb3.trans (hc4.mono hb3.size)
    clear hc4
    go_wp2_with fail
    refine (H6.out w4 hb4).mono ?_
    rintro e w5 ⟨rfl, hc5⟩
    have hb5 := hb4.trans (hc5.mono hb4.size)
    clear hc5
    go_wp2_with fail
    go_ret
    exact ⟨rfl, hb5⟩

set_option maxRecDepth 100000 in
set_option maxHeartbeats 4000000 in
theorem back_some (a b ca cb y : Nat) (s X Y Z : ByteArray) (same : Bool) (w : World) (hl : s.size ≤ 60)
    (hab : ((ca : Int) == (cb : Int)) = same) (hXY : (X.toList == Y.toList) = same) (hZ : (Z.toList == s.toList) = true)
    (h0 : Calls Tryd.prog 10 #[] w (Grew (.bool true) w))
    (h1 : ∀ w1, Below w.heap.size w w1 → Calls Tryd.prog 24 #[.int .u64 a] w1 (Grew (.string X) w1))
    (h2 : ∀ w1, Below w.heap.size w w1 → Calls Tryd.prog 17 #[.string X] w1 (Ret2 (.int .u64 ca) .nilIface w1))
    (h3 : ∀ w, Calls Tryd.prog 20 #[.int .u64 a] w fun e w' => e = .returned (.int .u64 ca) ∧ w = w')
    (h4 : ∀ w, Calls Tryd.prog 20 #[.int .u64 b] w fun e w' => e = .returned (.int .u64 cb) ∧ w = w')
    (h5 : ∀ w1, Below w.heap.size w w1 → Calls Tryd.prog 17 #[.string s] w1 (Ret2 (.int .u64 y) .nilIface w1))
    (h6 : ∀ w1, Below w.heap.size w w1 → Calls Tryd.prog 24 #[.int .u64 b] w1 (Grew (.string Y) w1))
    (h7 : ∀ w1, Below w.heap.size w w1 → Calls Tryd.prog 24 #[.int .u64 y] w1 (Grew (.string Z) w1))
    (h8 : ∀ w, Calls Tryd.prog 20 #[.int .u64 y] w fun e w' => e = .returned (.int .u64 y) ∧ w = w') :
    Calls Tryd.prog 4 #[.int .u64 a, .int .u64 b, .string s] w (Grew (.bool true) w) := by
  have H0 := Lib.hid h0
  have H1 := Lib.hid h1
  have H2 := Lib.hid h2
  have H3 := Lib.hid h3
  have H4 := Lib.hid h4
  have H5 := Lib.hid h5
  have H6 := Lib.hid h6
  have H7 := Lib.hid h7
  have H8 := Lib.hid h8
  clear h0 h1 h2 h3 h4 h5 h6 h7 h8
  cases same
  all_goals
    go_enter Tryd.func4, Tryd.ntmps4
    go_wp2_with fail
    refine H0.out.mono ?_
    rintro e w0 ⟨rfl, hb0⟩
    go_wp2_with fail
    refine (H1.out w0 hb0).mono ?_
    rintro e w1 ⟨rfl, hc1⟩
    have hb1 := hb0.trans (hc1.mono hb0.size)
    clear hc1
    go_wp2_with fail
    refine (H2.out w1 hb1).mono ?_
    rintro e w2 ⟨rfl, hc2⟩
    have hb2 := hb1.trans (hc2.mono hb1.size)
    clear hc2
    go_wp2_with fail
    refine (H3.out _).mono ?_
    rintro e w' ⟨rfl, rfl⟩
    go_wp2_with fail
    refine (H4.out _).mono ?_
    rintro e w' ⟨rfl, rfl⟩
    go_wp2_with fail
    refine (H5.out w2 hb2).mono ?_
    rintro e w3 ⟨rfl, hc3⟩
    have hb3 := hb2.trans (hc3.mono hb2.size)
    clear hc3
    go_wp2_with fail
    refine (H3.out _).mono ?_
    rintro e w' ⟨rfl, rfl⟩
    go_wp2_with fail
    refine (H1.out w3 hb3).mono ?_
    rintro e w4 ⟨rfl, hc4⟩
    have hb4 := hb3.trans (hc4.mono hb3.size)
    clear hc4
    go_wp2_with fail
    refine (H6.out w4 hb4).mono ?_
    rintro e w5 ⟨rfl, hc5⟩
    have hb5 := hb4.trans (hc5.mono hb4.size)
    clear hc5
    go_wp2_with fail
    refine (H7.out w5 hb5).mono ?_
    rintro e w6 ⟨rfl, hc6⟩
    have hb6 := hb5.trans (hc6.mono hb5.size)
    clear hc6
    go_wp2_with fail
    refine (H8.out _).mono ?_
    rintro e w' ⟨rfl, rfl⟩
    go_wp2_with fail
    go_ret
    exact ⟨rfl, hb6⟩

theorem canon_canon (a : Nat) : canonN (canonN a) = canonN a := by
  cases hx : nanB a
  · rw [canon_of_num hx, canon_of_num hx]
  · rw [canon_of_nan hx]; decide

theorem floBack_any (a b : Nat) (s : ByteArray) (ha : a < 18446744073709551616) (hb : b < 18446744073709551616) (_hs : s.size ≤ maxLen) (w : World) (h : All w) :
    Calls Tryd.prog 4 #[.int .u64 a, .int .u64 b, .string s] w (Grew (.bool true) w) := by
  have h0 := first_any w h.tabs
  by_cases hl : 60 < s.size
  · exact back_long a b s w hl h0
  · have hl : s.size ≤ 60 := by omega
    have hab : ((canonN a : Int) == (canonN b : Int)) = ((⟨(textL a).toArray⟩ : ByteArray).toList == (⟨(textL b).toArray⟩ : ByteArray).toList) := by
      rw [ByteArray.toList_eq, ByteArray.toList_eq, Bool.eq_iff_iff, beq_iff_eq, beq_iff_eq]
      show (canonN a : Int) = canonN b ↔ textL a = textL b
      rw [textL_inj a b ha hb]
      omega
    have t1 := fun w1 (hb1 : Below w.heap.size w w1) => text_any a ha w1 (h.below hb1).tabs
    have t2 := fun w1 (hb1 : Below w.heap.size w w1) => parse_yes ⟨(textL a).toArray⟩ a ha rfl w1 (h.below hb1)
    have t6 := fun w1 (hb1 : Below w.heap.size w w1) => text_any b hb w1 (h.below hb1).tabs
    by_cases hs : ∃ c, c < 18446744073709551616 ∧ s.data.toList = textL c
    · obtain ⟨c, hc, e⟩ := hs
      refine back_some a b (canonN a) (canonN b) (canonN c) s _ _ ⟨(textL (canonN c)).toArray⟩ _ w hl hab rfl ?_ h0 t1 t2 (canon_any a) (canon_any b) (fun w1 hb1 => parse_yes s c hc e w1 (h.below hb1)) t6 (fun w1 hb1 => text_any _ (canon_lt c hc) w1 (h.below hb1).tabs) fun w => ?_
      · rw [ByteArray.toList_eq, ByteArray.toList_eq, e, text_canon, beq_iff_eq]
      · have := canon_any (canonN c) w
        rw [canon_canon] at this
        exact this
    · obtain ⟨tp, p, e⟩ := h.errs.num
      exact back_none a b (canonN a) (canonN b) s _ _ _ tp p w hl hab rfl h0 t1 t2 (canon_any a) (canon_any b) (fun w1 hb1 => parse_none s (fun c hc e => hs ⟨c, hc, e⟩) tp p w1 (h.below hb1) (var_below hb1 glob0 e)) t6

end Go.Proofs.YtpdiajagdehfkaaDoor
