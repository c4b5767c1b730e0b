/- LexSays: the walk of the law, out of the contracts of what it calls. No conditions. -/
import Derived.Test.YtoobcaegnokdpaaDoorLexF
namespace Go.Proofs.YtoobcaegnokdpaaDoor
open Go.RowKit

set_option maxRecDepth 100000 in
set_option maxHeartbeats 4000000 in
theorem says_core (s t : ByteArray) (l : List (ByteArray × Nat)) (a b : Bool) (w : World) (hs : s.size ≤ 500) (ht : t.size ≤ 60) (hn : l.length ≤ 500)
    (H0 : Hid (Calls Tryd.prog 8 #[] w (Grew (.bool true) w)))
    (HW : Hid (∀ w, Calls Tryd.prog 9 #[.string s] w (NewWds l .nilIface w)))
    (HR : Hid (∀ w, Calls Tryd.prog 10 #[.string s] w (NewWds l (.bool true) w)))
    (H1 : Hid (∀ w, Calls Tryd.prog 11 #[.string t] w fun e w' => e = .returned (.bool a) ∧ w = w'))
    (H2 : Hid (∀ w, Calls Tryd.prog 12 #[.string t] w fun e w' => e = .returned (.bool a) ∧ Below w.heap.size w w'))
    (H3 : Hid (∀ w, Calls Tryd.prog 13 #[.string t] w fun e w' => e = .returned (.bool b) ∧ w = w'))
    (H4 : Hid (∀ w, Calls Tryd.prog 14 #[.string t] w fun e w' => e = .returned (.bool b) ∧ w = w')) :
    Calls Tryd.prog 3 #[.string s, .string t] w (Grew (.bool true) w) := by
  obtain ⟨n, hnl⟩ : ∃ n, n = l.length := ⟨_, rfl⟩
  have HL := Lib.hid hnl
  have hsz : (s.size : Int) ≤ 500 := by omega
  have htz : (t.size : Int) ≤ 60 := by omega
  go_enter Tryd.func3, Tryd.ntmps3
  go_wp2_with fail
  refine H0.out.mono ?_
  rintro e w0 ⟨rfl, hb0⟩
  have HB0 := Lib.hid hb0
  clear hb0
  go_wp2_with fail
  refine (HW.out w0).mono ?_
  rintro e w1 ⟨ao, cap, rfl, hw1, hb1⟩
  have HB1 := Lib.hid hb1
  have HV1 := Lib.hid hw1
  clear hb1 hw1
  go_wp2_with fail
  refine (HR.out w1).mono ?_
  rintro e w2 ⟨ao', cap', rfl, hw2, hb2⟩
  have HB2 := Lib.hid hb2
  have HV1' := Lib.hid (HV1.out.below hb2)
  have HV2 := Lib.hid hw2
  clear hb2 hw2 HV1
  rw [← hnl] at hn ⊢
  clear hnl
  go_wp2_with fail
  go_loopw [10] (fun vi wr => ∃ i m : Nat, i ≤ n ∧ vi = .int .i64 i ∧ wr = w2.drewN m) (fun vi _ => n + 1 - (intOf vi).toNat)
  case atStart => exact ⟨0, 0, by omega, rfl, rfl⟩
  case round =>
    obtain ⟨i, m, hi, rfl, rfl⟩ := hrel
    by_cases hin : i < n
    · obtain ⟨p, rfl, _, _, c1, c2⟩ := HV1'.out i (by rw [← HL.out]; exact hin)
      obtain ⟨q, rfl, _, _, c3, c4⟩ := HV2.out i (by rw [← HL.out]; exact hin)
      have hiz : (i : Int) < (n : Int) := by omega
      have hi0 : (0 : Int) ≤ (i : Int) := by omega
      go_wp2_with fail
      go_quiet (fail)
      go_wp2_with fail
      go_roundw
      case rel => exact ⟨i + 1, _, by omega, by go_num, rfl⟩
      case measure => simp [intOf]; omega
    · obtain rfl : i = n := by omega
      go_wp2_with fail
      refine (H1.out _).mono ?_
      rintro e w' ⟨rfl, rfl⟩
      go_wp2_with fail
      refine (H2.out _).mono ?_
      rintro e w3 ⟨rfl, hb3⟩
      have HB3 := Lib.hid hb3
      clear hb3
      go_wp2_with fail
      refine (H3.out _).mono ?_
      rintro e w' ⟨rfl, rfl⟩
      go_wp2_with fail
      refine (H4.out _).mono ?_
      rintro e w' ⟨rfl, rfl⟩
      go_wp2_with fail
      go_ret
      refine ⟨rfl, ?_⟩
      have h1 := HB0.out.trans (HB1.out.mono HB0.out.size)
      have h2 := h1.trans (HB2.out.mono h1.size)
      have h3 : Below w.heap.size w (w2.drewN m) := below_drewN h2 m
      exact h3.trans (HB3.out.mono h3.size)

theorem lexSays_any (s t : ByteArray) (_ : s.size ≤ maxLen) (_ : t.size ≤ maxLen) (w : World) (_ : True) :
    Calls Tryd.prog 3 #[.string s, .string t] w (Grew (.bool true) w) := by
  by_cases h1 : 500 < s.size
  · have h1' : (500 : Int) < (s.size : Int) := by omega
    have H0 := Lib.hid (first_any w)
    go_enter Tryd.func3, Tryd.ntmps3
    go_wp2_with fail
    refine H0.out.mono ?_
    rintro e w0 ⟨rfl, hb0⟩
    go_wp2_with fail
    go_ret
    exact ⟨rfl, hb0⟩
  by_cases h2 : 60 < t.size
  · have h1' : (s.size : Int) ≤ 500 := by omega
    have h2' : (60 : Int) < (t.size : Int) := by omega
    have H0 := Lib.hid (first_any w)
    go_enter Tryd.func3, Tryd.ntmps3
    go_wp2_with fail
    refine H0.out.mono ?_
    rintro e w0 ⟨rfl, hb0⟩
    go_wp2_with fail
    go_ret
    exact ⟨rfl, hb0⟩
  have hl := words_len s.data.toList
  rw [← Lib.size_eq] at hl
  exact says_core s t (words s.data.toList) (nameB t) (upperB t) w (by omega) (by omega) (by omega) (Lib.hid (first_any w)) (Lib.hid (words_any s (by omega))) (Lib.hid (rwords_any s (by omega)))
    (Lib.hid (name_any t (by omega))) (Lib.hid (rname_any t (by omega))) (Lib.hid (upper_any t (by omega))) (Lib.hid (rupper_any t (by omega)))
end Go.Proofs.YtoobcaegnokdpaaDoor
