/- FloSays: the walk of the law, out of the contracts of what it calls. Conditions: the two tables and the errors' variables as start-up lays them; 64 bits. -/
import Derived.Test.YtpdiajagdehfkaaDoorR14
import Derived.Test.YtpdiajagdehfkaaDoorR16
import Derived.Test.YtpdiajagdehfkaaDoorR3
import Derived.Test.YtpdiajagdehfkaaDoorR5
namespace Go.Proofs.YtpdiajagdehfkaaDoor
open Go.RowKit Ieee

set_option maxRecDepth 100000 in
set_option maxHeartbeats 1000000 in
theorem says_long1 (name s : ByteArray) (a b : Nat) (n : Int) (w : World) (hl : 60 < s.size) (h0 : Calls Tryd.prog 10 #[] w (Grew (.bool true) w)) :
    Calls Tryd.prog 3 #[.string name, .string s, .int .u64 a, .int .u64 b, .int .i64 n] w (Grew (.bool true) w) := by
  have H0 := Lib.hid h0
  clear h0
  go_enter Tryd.func3, Tryd.ntmps3
  go_wp2_with fail
  refine H0.out.mono ?_
  rintro e w0 ⟨rfl, hb0⟩
  go_wp2_with fail
  go_ret
  exact ⟨rfl, hb0⟩

set_option maxRecDepth 100000 in
set_option maxHeartbeats 1000000 in
theorem says_long2 (name s : ByteArray) (a b : Nat) (n : Int) (w : World) (hs : s.size ≤ 60) (hl : 60 < name.size) (h0 : Calls Tryd.prog 10 #[] w (Grew (.bool true) w)) :
    Calls Tryd.prog 3 #[.string name, .string s, .int .u64 a, .int .u64 b, .int .i64 n] w (Grew (.bool true) w) := by
  have H0 := Lib.hid h0
  clear h0
  go_enter Tryd.func3, Tryd.ntmps3
  go_wp2_with fail
  refine H0.out.mono ?_
  rintro e w0 ⟨rfl, hb0⟩
  go_wp2_with fail
  go_ret
  exact ⟨rfl, hb0⟩

set_option maxRecDepth 100000 in
set_option maxHeartbeats 4000000 in
theorem says_yes (name s X : ByteArray) (a b c ca fn v : Nat) (g n : Int) (is e can fits : Bool) (w : World) (hs : s.size ≤ 60) (hn : name.size ≤ 60)
    (h0 : Calls Tryd.prog 10 #[] w (Grew (.bool true) w))
    (h11 : ∀ w, Calls Tryd.prog 11 #[.string name, .int .u64 a, .int .u64 b] w (Grew (.tuple #[.int .u64 c, .bool is]) w))
    (h12 : ∀ w, Calls Tryd.prog 12 #[.string name, .int .u64 a, .int .u64 b] w (Grew (.tuple #[.int .u64 c, .bool is]) w))
    (h13 : ∀ w, Calls Tryd.prog 13 #[.string name, .int .u64 a, .int .u64 b] w fun e' w' => e' = .returned (.tuple #[.bool e, .bool can]) ∧ w = w')
    (h14 : ∀ w, Calls Tryd.prog 14 #[.string name, .int .u64 a, .int .u64 b] w fun e' w' => e' = .returned (.tuple #[.bool e, .bool can]) ∧ w = w')
    (h15 : ∀ w, Calls Tryd.prog 15 #[.int .u64 a] w fun e' w' => e' = .returned (.tuple #[.int .i64 g, .bool fits]) ∧ w = w')
    (h16 : ∀ w, Calls Tryd.prog 16 #[.int .u64 a] w fun e' w' => e' = .returned (.tuple #[.int .i64 g, .bool fits]) ∧ w = w')
    (h17 : ∀ w1, Below w.heap.size w w1 → Calls Tryd.prog 17 #[.string s] w1 (Ret2 (.int .u64 v) .nilIface w1))
    (h18 : ∀ w, Calls Tryd.prog 18 #[.string s] w fun e' w' => e' = .returned (.tuple #[.int .u64 v, .bool true]) ∧ w = w')
    (h20 : ∀ w, Calls Tryd.prog 20 #[.int .u64 a] w fun e' w' => e' = .returned (.int .u64 ca) ∧ w = w')
    (h21 : ∀ w, Calls Tryd.prog 21 #[.int .u64 a] w fun e' w' => e' = .returned (.int .u64 ca) ∧ w = w')
    (h22 : ∀ w, Calls Tryd.prog 22 #[.int .i64 n] w fun e' w' => e' = .returned (.int .u64 fn) ∧ w = w')
    (h23 : ∀ w, Calls Tryd.prog 23 #[.int .i64 n] w fun e' w' => e' = .returned (.int .u64 fn) ∧ w = w')
    (h24 : ∀ w1, Below w.heap.size w w1 → Calls Tryd.prog 24 #[.int .u64 a] w1 (Grew (.string X) w1))
    (h25 : ∀ w1, Below w.heap.size w w1 → Calls Tryd.prog 25 #[.int .u64 a] w1 (Grew (.string X) w1)) :
    Calls Tryd.prog 3 #[.string name, .string s, .int .u64 a, .int .u64 b, .int .i64 n] w (Grew (.bool true) w) := by
  have H0 := Lib.hid h0
  have H11 := Lib.hid h11
  have H12 := Lib.hid h12
  have H13 := Lib.hid h13
  have H14 := Lib.hid h14
  have H15 := Lib.hid h15
  have H16 := Lib.hid h16
  have H17 := Lib.hid h17
  have H18 := Lib.hid h18
  have H20 := Lib.hid h20
  have H21 := Lib.hid h21
  have H22 := Lib.hid h22
  have H23 := Lib.hid h23
  have H24 := Lib.hid h24
  have H25 := Lib.hid h25
  clear h0 h11 h12 h13 h14 h15 h16 h17 h18 h20 h21 h22 h23 h24 h25
  go_enter Tryd.func3, Tryd.ntmps3
  go_wp2_with fail
  refine H0.out.mono ?_
  rintro e w0 ⟨rfl, hb0⟩
  go_wp2_with fail
  refine (H11.out _).mono ?_
  rintro e w1 ⟨rfl, hc1⟩
  have hb1 := hb0.trans (hc1.mono hb0.size)
  clear hc1 hb0
  go_wp2_with fail
  refine (H12.out _).mono ?_
  rintro e w2 ⟨rfl, hc2⟩
  have hb2 := hb1.trans (hc2.mono hb1.size)
  clear hc2 hb1
  go_wp2_with fail
  refine (H13.out _).mono ?_
  rintro e w' ⟨rfl, rfl⟩
  go_wp2_with fail
  refine (H14.out _).mono ?_
  rintro e w' ⟨rfl, rfl⟩
  go_wp2_with fail
  refine (H15.out _).mono ?_
  rintro e w' ⟨rfl, rfl⟩
  go_wp2_with fail
  refine (H16.out _).mono ?_
  rintro e w' ⟨rfl, rfl⟩
  go_wp2_with fail
  refine (H17.out _ hb2).mono ?_
  rintro e w3 ⟨rfl, hc3⟩
  have hb3 := hb2.trans (hc3.mono hb2.size)
  clear hc3 hb2
  go_wp2_with fail
  refine (H18.out _).mono ?_
  rintro e w' ⟨rfl, rfl⟩
  go_wp2_with fail
  refine (H20.out _).mono ?_
  rintro e w' ⟨rfl, rfl⟩
  go_wp2_with fail
  refine (H21.out _).mono ?_
  rintro e w' ⟨rfl, rfl⟩
  go_wp2_with fail
  refine (H22.out _).mono ?_
  rintro e w' ⟨rfl, rfl⟩
  go_wp2_with fail
  refine (H23.out _).mono ?_
  rintro e w' ⟨rfl, rfl⟩
  go_wp2_with fail
  refine (H24.out _ hb3).mono ?_
  rintro e w4 ⟨rfl, hc4⟩
  have hb4 := hb3.trans (hc4.mono hb3.size)
  clear hc4 hb3
  go_wp2_with fail
  refine (H25.out _ hb4).mono ?_
  rintro e w5 ⟨rfl, hc5⟩
  have hb5 := hb4.trans (hc5.mono hb4.size)
  clear hc5 hb4
  go_wp2_with fail
  go_ret
  exact ⟨rfl, hb5⟩

set_option maxRecDepth 100000 in
set_option maxHeartbeats 4000000 in
theorem says_no (name s X : ByteArray) (a b c ca fn : Nat) (g n : Int) (is e can fits : Bool) (q : Addr) (w : World) (hs : s.size ≤ 60) (hn : name.size ≤ 60)
    (h0 : Calls Tryd.prog 10 #[] w (Grew (.bool true) w))
    (h11 : ∀ w, Calls Tryd.prog 11 #[.string name, .int .u64 a, .int .u64 b] w (Grew (.tuple #[.int .u64 c, .bool is]) w))
    (h12 : ∀ w, Calls Tryd.prog 12 #[.string name, .int .u64 a, .int .u64 b] w (Grew (.tuple #[.int .u64 c, .bool is]) w))
    (h13 : ∀ w, Calls Tryd.prog 13 #[.string name, .int .u64 a, .int .u64 b] w fun e' w' => e' = .returned (.tuple #[.bool e, .bool can]) ∧ w = w')
    (h14 : ∀ w, Calls Tryd.prog 14 #[.string name, .int .u64 a, .int .u64 b] w fun e' w' => e' = .returned (.tuple #[.bool e, .bool can]) ∧ w = w')
    (h15 : ∀ w, Calls Tryd.prog 15 #[.int .u64 a] w fun e' w' => e' = .returned (.tuple #[.int .i64 g, .bool fits]) ∧ w = w')
    (h16 : ∀ w, Calls Tryd.prog 16 #[.int .u64 a] w fun e' w' => e' = .returned (.tuple #[.int .i64 g, .bool fits]) ∧ w = w')
    (h17 : ∀ w1, Below w.heap.size w w1 → Calls Tryd.prog 17 #[.string s] w1 (Ret2 (.int .u64 0) (.iface 121 (.pointer (some q))) w1))
    (h18 : ∀ w, Calls Tryd.prog 18 #[.string s] w fun e' w' => e' = .returned (.tuple #[.int .u64 0, .bool false]) ∧ w = w')
    (h19 : ∀ w1, Below w.heap.size w w1 → Calls Tryd.prog 19 #[.iface 121 (.pointer (some q)), .int .i64 118] w1 (Grew (.bool true) w1))
    (h20 : ∀ w, Calls Tryd.prog 20 #[.int .u64 a] w fun e' w' => e' = .returned (.int .u64 ca) ∧ w = w')
    (h21 : ∀ w, Calls Tryd.prog 21 #[.int .u64 a] w fun e' w' => e' = .returned (.int .u64 ca) ∧ w = w')
    (h22 : ∀ w, Calls Tryd.prog 22 #[.int .i64 n] w fun e' w' => e' = .returned (.int .u64 fn) ∧ w = w')
    (h23 : ∀ w, Calls Tryd.prog 23 #[.int .i64 n] w fun e' w' => e' = .returned (.int .u64 fn) ∧ w = w')
    (h24 : ∀ w1, Below w.heap.size w w1 → Calls Tryd.prog 24 #[.int .u64 a] w1 (Grew (.string X) w1))
    (h25 : ∀ w1, Below w.heap.size w w1 → Calls Tryd.prog 25 #[.int .u64 a] w1 (Grew (.string X) w1)) :
    Calls Tryd.prog 3 #[.string name, .string s, .int .u64 a, .int .u64 b, .int .i64 n] w (Grew (.bool true) w) := by
  have H0 := Lib.hid h0
  have H11 := Lib.hid h11
  have H12 := Lib.hid h12
  have H13 := Lib.hid h13
  have H14 := Lib.hid h14
  have H15 := Lib.hid h15
  have H16 := Lib.hid h16
  have H17 := Lib.hid h17
  have H18 := Lib.hid h18
  have H19 := Lib.hid h19
  have H20 := Lib.hid h20
  have H21 := Lib.hid h21
  have H22 := Lib.hid h22
  have H23 := Lib.hid h23
  have H24 := Lib.hid h24
  have H25 := Lib.hid h25
  clear h0 h11 h12 h13 h14 h15 h16 h17 h18 h19 h20 h21 h22 h23 h24 h25
  go_enter Tryd.func3, Tryd.ntmps3
  go_wp2_with fail
  refine H0.out.mono ?_
  rintro e w0 ⟨rfl, hb0⟩
  go_wp2_with fail
  refine (H11.out _).mono ?_
  rintro e w1 ⟨rfl, hc1⟩
  have hb1 := hb0.trans (hc1.mono hb0.size)
  clear hc1 hb0
  go_wp2_with fail
  refine (H12.out _).mono ?_
  rintro e w2 ⟨rfl, hc2⟩
  have hb2 := hb1.trans (hc2.mono hb1.size)
  clear hc2 hb1
  go_wp2_with fail
  refine (H13.out _).mono ?_
  rintro e w' ⟨rfl, rfl⟩
  go_wp2_with fail
  refine (H14.out _).mono ?_
  rintro e w' ⟨rfl, rfl⟩
  go_wp2_with fail
  refine (H15.out _).mono ?_
  rintro e w' ⟨rfl, rfl⟩
  go_wp2_with fail
  refine (H16.out _).mono ?_
  rintro e w' ⟨rfl, rfl⟩
  go_wp2_with fail
  refine (H17.out _ hb2).mono ?_
  rintro e w3 ⟨rfl, hc3⟩
  have hb3 := hb2.trans (hc3.mono hb2.size)
  clear hc3 hb2
  go_wp2_with fail
  refine (H18.out _).mono ?_
  rintro e w' ⟨rfl, rfl⟩
  go_wp2_with fail
  refine (H19.out _ hb3).mono ?_
  rintro e w9 ⟨rfl, hc9⟩
  have hb9 := hb3.trans (hc9.mono hb3.size)
  clear hc9 hb3
  go_wp2_with fail
  refine (H20.out _).mono ?_
  rintro e w' ⟨rfl, rfl⟩
  go_wp2_with fail
  refine (H21.out _).mono ?_
  rintro e w' ⟨rfl, rfl⟩
  go_wp2_with fail
  refine (H22.out _).mono ?_
  rintro e w' ⟨rfl, rfl⟩
  go_wp2_with fail
  refine (H23.out _).mono ?_
  rintro e w' ⟨rfl, rfl⟩
  go_wp2_with fail
  refine (H24.out _ hb9).mono ?_
  rintro e w4 ⟨rfl, hc4⟩
  have hb4 := hb9.trans (hc4.mono hb9.size)
  clear hc4 hb9
  go_wp2_with fail
  refine (H25.out _ hb4).mono ?_
  rintro e w5 ⟨rfl, hc5⟩
  have hb5 := hb4.trans (hc5.mono hb4.size)
  clear hc5 hb4
  go_wp2_with fail
  go_ret
  exact ⟨rfl, hb5⟩


/-- A draw's post as a growth's. -/
theorem drew_grew {v : Value} {w : World} {e : Ending} {w' : World} (h : Drew v w e w') : Grew v w e w' := by
  obtain ⟨n, rfl, rfl⟩ := h
  exact ⟨rfl, below_drewN (Below.refl _ _) n⟩

/-- FLOSAYS, of any arguments. -/
theorem floSays_walk (name s : ByteArray) (a b : Nat) (n : Int) (ha : a < 18446744073709551616) (A : Nat → Addr) (w : World) (h : All w) (hS : Sents A w) (hv : w.var? Tryd.prog "gristmill/api.ErrNumber" = some #[errI A 17]) :
    Calls Tryd.prog 3 #[.string name, .string s, .int .u64 a, .int .u64 b, .int .i64 n] w (Grew (.bool true) w) := by
  have h0 := first_any w h.tabs
  by_cases hl : 60 < s.size
  · exact says_long1 name s a b n w hl h0
  · have hl : s.size ≤ 60 := by omega
    by_cases hm : 60 < name.size
    · exact says_long2 name s a b n w hl hm h0
    · have hm : name.size ≤ 60 := by omega
      obtain ⟨c, is, d1, d2⟩ := do_both name a b
      obtain ⟨e, can, e1, e2⟩ := is_both name a b
      have t11 := fun w => (d1 w).mono fun _ _ => drew_grew
      have t12 := fun w => (d2 w).mono fun _ _ => drew_grew
      have t24 := fun w1 (hb1 : Below w.heap.size w w1) => text_any a ha w1 (h.below hb1).tabs
      have t25 := fun w1 (hb1 : Below w.heap.size w w1) => rtext_any a ha w1 (h.below hb1).tabs
      obtain ⟨v, ok, g1, g2, g3, g4⟩ := rparse_any s hl
      cases ok
      · obtain ⟨rfl, g5⟩ := g3 rfl
        exact says_no name s _ a b c (canonN a) (ofI n) _ n is e can (tiOk a) (A 17) w hl hm h0 t11 t12 e1 e2 (toint_any a) (rti_any a ha)
          (fun w1 hb1 => parse_none s g5 121 _ w1 (h.below hb1) (var_below hb1 glob0 hv)) g4 (fun w1 hb1 => is_any A w1 (hS.below hb1)) (canon_any a) (rcanon_any a ha) (ofint_any n) (rofint_any n) t24 t25
      · obtain ⟨g5, g6⟩ := g2 rfl
        exact says_yes name s _ a b c (canonN a) (ofI n) v _ n is e can (tiOk a) w hl hm h0 t11 t12 e1 e2 (toint_any a) (rti_any a ha)
          (fun w1 hb1 => by have := parse_yes s v g1 g5 w1 (h.below hb1); rw [g6] at this; exact this) g4 (canon_any a) (rcanon_any a ha) (ofint_any n) (rofint_any n) t24 t25

end Go.Proofs.YtpdiajagdehfkaaDoor
