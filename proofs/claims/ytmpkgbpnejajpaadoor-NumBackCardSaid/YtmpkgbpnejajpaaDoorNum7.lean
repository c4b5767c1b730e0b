/- NumBack: the walk of the law, out of the contracts of what it calls. Conditions: the table of powers of ten and the errors' variables as start-up lays them; 64 bits. -/
import Derived.Test.YtmpkgbpnejajpaaDoorNum6
namespace Go.Proofs.YtmpkgbpnejajpaaDoor
open Go.RowKit

set_option maxRecDepth 100000 in
set_option maxHeartbeats 16000000 in
theorem back_core (a b : Int) (c : Bool) (x y z : ByteArray) (tp : TypeId) (p : Value) (w : World) (hx : x.size ≤ 30) (hz : z.size ≤ 30) (hxy : (x.toList == y.toList) = c) (hab : (a == b) = c)
    (H0 : Hid (Calls Tryd.prog 8 #[] w (Grew (.bool true) w)))
    (HA : Hid (∀ w1, Below w.heap.size w w1 → Calls Tryd.prog 15 #[.int .i64 a] w1 (Grew (.string x) w1)))
    (HB : Hid (∀ w1, Below w.heap.size w w1 → Calls Tryd.prog 15 #[.int .i64 b] w1 (Grew (.string y) w1)))
    (HM : Hid (∀ w1, Below w.heap.size w w1 → Calls Tryd.prog 15 #[.int .i64 9223372036854775807] w1 (Grew (.string z) w1)))
    (P0 : Hid (∀ w1, Below w.heap.size w w1 → Calls Tryd.prog 11 #[.string x] w1 (Grew (.tuple #[.int .i64 a, .nilIface]) w1)))
    (P1 : Hid (∀ w1, Below w.heap.size w w1 → Calls Tryd.prog 11 #[.string ({ data := #[48] } ++ x)] w1 (Grew (.tuple #[.int .i64 0, .iface tp p]) w1)))
    (P2 : Hid (∀ w1, Below w.heap.size w w1 → Calls Tryd.prog 11 #[.string ({ data := #[45, 45] } ++ x)] w1 (Grew (.tuple #[.int .i64 0, .iface tp p]) w1)))
    (P3 : Hid (∀ w1, Below w.heap.size w w1 → Calls Tryd.prog 11 #[.string (z ++ { data := #[48] })] w1 (Grew (.tuple #[.int .i64 0, .iface tp p]) w1)))
    (P4 : Hid (∀ w1, Below w.heap.size w w1 → Calls Tryd.prog 11 #[.string { data := #[57, 50, 50, 51, 51, 55, 50, 48, 51, 54, 56, 53, 52, 55, 55, 53, 56, 48, 56] }] w1 (Grew (.tuple #[.int .i64 0, .iface tp p]) w1)))
    (P5 : Hid (∀ w1, Below w.heap.size w w1 → Calls Tryd.prog 11 #[.string { data := #[45, 57, 50, 50, 51, 51, 55, 50, 48, 51, 54, 56, 53, 52, 55, 55, 53, 56, 48, 56] }] w1 (Grew (.tuple #[.int .i64 (-9223372036854775808), .nilIface]) w1))) :
    Calls Tryd.prog 4 #[.int .i64 a, .int .i64 b] w (Grew (.bool true) w) := by
  cases c
  all_goals
    go_enter Tryd.func4, Tryd.ntmps4
    go_wp2_with fail
    refine H0.out.mono ?_
    rintro e w0 ⟨rfl, hb0⟩
    go_wp2_with fail
    refine (HA.out w0 hb0).mono ?_
    rintro e w1 ⟨rfl, hc1⟩
    have hb1 := hb0.trans (hc1.mono hb0.size)
    clear hc1
    go_wp2_with fail
    refine (P0.out w1 hb1).mono ?_
    rintro e w2 ⟨rfl, hc2⟩
    have hb2 := hb1.trans (hc2.mono hb1.size)
    clear hc2
    go_wp2_with fail
    refine (HA.out w2 hb2).mono ?_
    rintro e w3 ⟨rfl, hc3⟩
    have hb3 := hb2.trans (hc3.mono hb2.size)
    clear hc3
    go_wp2_with fail
    refine (P1.out w3 hb3).mono ?_
    rintro e w4 ⟨rfl, hc4⟩
    have hb4 := hb3.trans (hc4.mono hb3.size)
    clear hc4 hb0 hb1 hb2 hb3
    go_wp2_with fail
    refine (HA.out w4 hb4).mono ?_
    rintro e w5 ⟨rfl, hc5⟩
    have hb5 := hb4.trans (hc5.mono hb4.size)
    clear hc5
    go_wp2_with fail
    refine (P2.out w5 hb5).mono ?_
    rintro e w6 ⟨rfl, hc6⟩
    have hb6 := hb5.trans (hc6.mono hb5.size)
    clear hc6
    go_wp2_with fail
    refine (HM.out w6 hb6).mono ?_
    rintro e w7 ⟨rfl, hc7⟩
    have hb7 := hb6.trans (hc7.mono hb6.size)
    clear hc7 hb4 hb5 hb6
    go_wp2_with fail
    refine (P3.out w7 hb7).mono ?_
    rintro e w8 ⟨rfl, hc8⟩
    have hb8 := hb7.trans (hc8.mono hb7.size)
    clear hc8
    go_wp2_with fail
    refine (P4.out w8 hb8).mono ?_
    rintro e w9 ⟨rfl, hc9⟩
    have hb9 := hb8.trans (hc9.mono hb8.size)
    clear hc9 hb7 hb8
    go_wp2_with fail
    refine (P5.out w9 hb9).mono ?_
    rintro e w10 ⟨rfl, hc10⟩
    have hb10 := hb9.trans (hc10.mono hb9.size)
    clear hc10 hb9
    go_wp2_with fail
    refine (HA.out w10 hb10).mono ?_
    rintro e w11 ⟨rfl, hc11⟩
    have hb11 := hb10.trans (hc11.mono hb10.size)
    clear hc11 hb10
    go_wp2_with fail
    refine (HB.out w11 hb11).mono ?_
    rintro e w12 ⟨rfl, hc12⟩
    have hb12 := hb11.trans (hc12.mono hb11.size)
    clear hc12 hb11
    go_wp2_with fail
    go_ret
    exact ⟨rfl, hb12⟩

theorem num_zero_ahead (n v : Int) : Lib.itoa v ≠ 48 :: Lib.itoa n := fun h => by
  by_cases hv : v < 0
  · rw [itoa_lt v hv] at h
    exact absurd (List.cons.inj h).1 (by decide)
  · rw [itoa_ge v (by omega)] at h
    exact itoa_nil n (dd_head _ _ _ h rfl)
theorem num_two_signs (n v : Int) : Lib.itoa v ≠ 45 :: 45 :: Lib.itoa n := fun h => by
  by_cases hv : v < 0
  · rw [itoa_lt v hv] at h
    exact dd_ne_minus _ _ (List.cons.inj h).2
  · rw [itoa_ge v (by omega)] at h
    exact dd_ne_minus _ _ h
/-- A digit behind: ten times as much. -/
theorem num_ten (u : Nat) (hu : 1 ≤ u) : Lib.decDigits (u * 10) = Lib.decDigits u ++ [48] := by
  rw [Lib.decDigits, dif_neg (by omega), show u * 10 / 10 = u by omega, show u * 10 % 10 = 0 by omega]
  rfl
theorem ba_list (l : List UInt8) : (⟨l.toArray⟩ : ByteArray).data.toList = l := by simp

/-- NumBack. -/
theorem numBack_any (a b : Int) (wa : (Lit.int .i64 a).wf = true) (wb : (Lit.int .i64 b).wf = true) (w : World) (h : Tabs w ∧ Errs w ∧ ∃ tp p, w.var? Tryd.prog "gristmill/api.ErrNumber" = some #[.iface tp p]) :
    Calls Tryd.prog 4 #[.int .i64 a, .int .i64 b] w (Grew (.bool true) w) := by
  obtain ⟨ht, he, tp, p, hv⟩ := h
  have ra : -9223372036854775808 ≤ a ∧ a ≤ 9223372036854775807 := by simpa [Lit.wf, IntKind.min, IntKind.max, IntKind.signed, IntKind.bits] using wa
  have rb : -9223372036854775808 ≤ b ∧ b ≤ 9223372036854775807 := by simpa [Lit.wf, IntKind.min, IntKind.max, IntKind.signed, IntKind.bits] using wb
  have la := itoa_len a ra.1 ra.2
  have lm := itoa_len 9223372036854775807 (by decide) (by decide)
  have pn : ∀ s : ByteArray, (∀ v, ¬ NumIs s.data.toList v) → ∀ w1, Below w.heap.size w w1 → Calls Tryd.prog 11 #[.string s] w1 (Grew (.tuple #[.int .i64 0, .iface tp p]) w1) :=
    fun s hs w1 hb => parse_none s hs tp p w1 (ht.below hb) (he.below hb) (var_below hb globNum hv)
  have em : Lib.itoa 9223372036854775807 = Lib.decDigits 9223372036854775807 := itoa_ge _ (by decide)
  have e8 : Lib.decDigits 9223372036854775808 = [57, 50, 50, 51, 51, 55, 50, 48, 51, 54, 56, 53, 52, 55, 55, 53, 56, 48, 56] := by
    simp [Lib.decDigits]
  refine back_core a b (a == b) ⟨(Lib.itoa a).toArray⟩ ⟨(Lib.itoa b).toArray⟩ ⟨(Lib.itoa 9223372036854775807).toArray⟩ tp p w (by rw [size_of_list]; omega) (by rw [size_of_list]; omega) ?_ rfl
    (Lib.hid (first_any w ht)) (Lib.hid fun w1 hb => text_any a ra.1 ra.2 w1 (ht.below hb)) (Lib.hid fun w1 hb => text_any b rb.1 rb.2 w1 (ht.below hb)) (Lib.hid fun w1 hb => text_any _ (by decide) (by decide) w1 (ht.below hb))
    (Lib.hid fun w1 hb => parse_yes _ a (by rw [ba_list]; exact NumIs.itoa a ra.1 ra.2) w1 (ht.below hb)) (Lib.hid (pn _ ?_)) (Lib.hid (pn _ ?_)) (Lib.hid (pn _ ?_)) (Lib.hid (pn _ ?_)) (Lib.hid fun w1 hb => parse_yes _ _ ⟨?_, by decide, by decide⟩ w1 (ht.below hb))
  · rw [ByteArray.toList_eq, ByteArray.toList_eq, ba_list, ba_list]
    by_cases hab : a = b
    · subst hab; simp
    · have : Lib.itoa a ≠ Lib.itoa b := fun h => hab (itoa_inj h)
      rw [beq_eq_false_iff_ne.2 this, beq_eq_false_iff_ne.2 hab]
  · intro v hn
    refine num_zero_ahead a v (hn.1.trans ?_)
    simp
  · intro v hn
    refine num_two_signs a v (hn.1.trans ?_)
    simp
  · intro v ⟨h1, h2, h3⟩
    have e : Lib.itoa v = Lib.itoa 92233720368547758070 := by
      rw [h1, itoa_ge 92233720368547758070 (by decide), show (92233720368547758070 : Int).toNat = 9223372036854775807 * 10 from rfl, num_ten _ (by omega), ← em]
      simp
    have := itoa_inj e
    omega
  · intro v ⟨h1, h2, h3⟩
    have e : Lib.itoa v = Lib.itoa 9223372036854775808 := by
      rw [h1, itoa_ge 9223372036854775808 (by decide), show (9223372036854775808 : Int).toNat = 9223372036854775808 from rfl, e8]
    have := itoa_inj e
    omega
  · rw [itoa_lt _ (by decide), show (-9223372036854775808 : Int).natAbs = 9223372036854775808 from rfl, e8]
end Go.Proofs.YtmpkgbpnejajpaaDoor
