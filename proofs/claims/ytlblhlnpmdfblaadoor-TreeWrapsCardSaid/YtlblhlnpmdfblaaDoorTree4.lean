/- TreeWraps: the law, out of the contracts of what it calls. No conditions. -/
import Derived.Test.YtlblhlnpmdfblaaDoorTree3
namespace Go.Proofs.YtlblhlnpmdfblaaDoor
open Go.RowKit

set_option maxRecDepth 100000 in
set_option maxHeartbeats 4000000 in
theorem wraps_long1 (s t : ByteArray) (k : Int) (w : World) (h : 300 < s.size) (H0 : Hid (Calls Tryd.prog 6 #[] w (Grew (.bool true) w))) : Calls Tryd.prog 5 #[.string s, .string t, .int .i64 k] w (Grew (.bool true) w) := by
  have h' : (300 : Int) < (s.size : Int) := by omega
  go_enter Tryd.func5, Tryd.ntmps5
  go_wp2_with fail
  refine H0.out.mono ?_
  rintro e w0 ⟨rfl, hb0⟩
  have HB0 := Lib.hid hb0
  clear hb0
  go_wp2_with fail
  apply bodyPost_ret
  case hr => exact results_tmp rfl _ _ _
  case hd => rfl
  case hR => exact ⟨rfl, HB0.out⟩

set_option maxRecDepth 100000 in
set_option maxHeartbeats 4000000 in
theorem wraps_long2 (s t : ByteArray) (k : Int) (w : World) (h0 : s.size ≤ 300) (h : 300 < t.size) (H0 : Hid (Calls Tryd.prog 6 #[] w (Grew (.bool true) w))) : Calls Tryd.prog 5 #[.string s, .string t, .int .i64 k] w (Grew (.bool true) w) := by
  have h' : (300 : Int) < (t.size : Int) := by omega
  have h0' : (s.size : Int) ≤ 300 := by omega
  go_enter Tryd.func5, Tryd.ntmps5
  go_wp2_with fail
  refine H0.out.mono ?_
  rintro e w0 ⟨rfl, hb0⟩
  have HB0 := Lib.hid hb0
  clear hb0
  go_wp2_with fail
  apply bodyPost_ret
  case hr => exact results_tmp rfl _ _ _
  case hd => rfl
  case hR => exact ⟨rfl, HB0.out⟩

set_option maxRecDepth 100000 in
set_option maxHeartbeats 4000000 in
theorem wraps_nn (s t : ByteArray) (k : Int) (n : Nat) (w : World) (h0 : s.size ≤ 300) (h1 : t.size ≤ 300) (H0 : Hid (Calls Tryd.prog 6 #[] w (Grew (.bool true) w)))
    (HK : Hid (∀ w, Calls Tryd.prog 7 #[.int .i64 k, .int .i64 4] w fun e w' => e = .returned (.int .i64 (n : Int)) ∧ w = w'))
    (HA : Hid (∀ w1 : World, Below w.heap.size w w1 → Calls Tryd.prog 8 #[.string s] w1 fun e w' => ∃ ao cap tp p, e = .returned (.tuple #[.slice ao 0 cap, .iface tp p]) ∧ Below w1.heap.size w1 w'))
    (HB : Hid (∀ w1 : World, Below w.heap.size w w1 → Calls Tryd.prog 8 #[.string t] w1 fun e w' => ∃ ao cap tp p, e = .returned (.tuple #[.slice ao 0 cap, .iface tp p]) ∧ Below w1.heap.size w1 w')) : Calls Tryd.prog 5 #[.string s, .string t, .int .i64 k] w (Grew (.bool true) w) := by
  have h0' : (s.size : Int) ≤ 300 := by omega
  have h1' : (t.size : Int) ≤ 300 := by omega
  go_enter Tryd.func5, Tryd.ntmps5
  go_wp2_with fail
  refine H0.out.mono ?_
  rintro e w0 ⟨rfl, hb0⟩
  have HB0 := Lib.hid hb0
  clear hb0
  go_wp2_with fail
  refine (HK.out _).mono ?_
  rintro e w' ⟨rfl, rfl⟩
  go_wp2_with fail
  refine (HA.out _ HB0.out).mono ?_
  rintro e w' ⟨aoHA, capHA, tpHA, pHA, rfl, hb⟩
  have HB1 := Lib.hid (HB0.out.trans (hb.mono HB0.out.size))
  clear hb
  go_wp2_with fail
  refine (HB.out _ HB1.out).mono ?_
  rintro e w' ⟨aoHB, capHB, tpHB, pHB, rfl, hb⟩
  have HB2 := Lib.hid (HB1.out.trans (hb.mono HB1.out.size))
  clear hb
  go_wp2_with fail
  apply bodyPost_ret
  case hr => exact results_tmp rfl _ _ _
  case hd => rfl
  case hR => exact ⟨rfl, HB2.out⟩

set_option maxRecDepth 100000 in
set_option maxHeartbeats 4000000 in
theorem wraps_ny (s t : ByteArray) (k : Int) (n m : Nat) (w : World) (h0 : s.size ≤ 300) (h1 : t.size ≤ 300) (H0 : Hid (Calls Tryd.prog 6 #[] w (Grew (.bool true) w)))
    (HK : Hid (∀ w, Calls Tryd.prog 7 #[.int .i64 k, .int .i64 4] w fun e w' => e = .returned (.int .i64 (n : Int)) ∧ w = w'))
    (HA : Hid (∀ w1 : World, Below w.heap.size w w1 → Calls Tryd.prog 8 #[.string s] w1 fun e w' => ∃ ao cap tp p, e = .returned (.tuple #[.slice ao 0 cap, .iface tp p]) ∧ Below w1.heap.size w1 w'))
    (HB : Hid (∀ w1 : World, Below w.heap.size w w1 → Calls Tryd.prog 8 #[.string t] w1 fun e w' => ∃ ao cap, e = .returned (.tuple #[.slice ao m cap, .nilIface]) ∧ Below w1.heap.size w1 w')) : Calls Tryd.prog 5 #[.string s, .string t, .int .i64 k] w (Grew (.bool true) w) := by
  have h0' : (s.size : Int) ≤ 300 := by omega
  have h1' : (t.size : Int) ≤ 300 := by omega
  go_enter Tryd.func5, Tryd.ntmps5
  go_wp2_with fail
  refine H0.out.mono ?_
  rintro e w0 ⟨rfl, hb0⟩
  have HB0 := Lib.hid hb0
  clear hb0
  go_wp2_with fail
  refine (HK.out _).mono ?_
  rintro e w' ⟨rfl, rfl⟩
  go_wp2_with fail
  refine (HA.out _ HB0.out).mono ?_
  rintro e w' ⟨aoHA, capHA, tpHA, pHA, rfl, hb⟩
  have HB1 := Lib.hid (HB0.out.trans (hb.mono HB0.out.size))
  clear hb
  go_wp2_with fail
  refine (HB.out _ HB1.out).mono ?_
  rintro e w' ⟨aoHB, capHB, rfl, hb⟩
  have HB2 := Lib.hid (HB1.out.trans (hb.mono HB1.out.size))
  clear hb
  go_wp2_with fail
  apply bodyPost_ret
  case hr => exact results_tmp rfl _ _ _
  case hd => rfl
  case hR => exact ⟨rfl, HB2.out⟩

set_option maxRecDepth 100000 in
set_option maxHeartbeats 4000000 in
theorem wraps_yn (s t : ByteArray) (k : Int) (n m : Nat) (w : World) (h0 : s.size ≤ 300) (h1 : t.size ≤ 300) (H0 : Hid (Calls Tryd.prog 6 #[] w (Grew (.bool true) w)))
    (HK : Hid (∀ w, Calls Tryd.prog 7 #[.int .i64 k, .int .i64 4] w fun e w' => e = .returned (.int .i64 (n : Int)) ∧ w = w'))
    (HA : Hid (∀ w1 : World, Below w.heap.size w w1 → Calls Tryd.prog 8 #[.string s] w1 fun e w' => ∃ ao cap, e = .returned (.tuple #[.slice ao m cap, .nilIface]) ∧ Below w1.heap.size w1 w'))
    (HB : Hid (∀ w1 : World, Below w.heap.size w w1 → Calls Tryd.prog 8 #[.string t] w1 fun e w' => ∃ ao cap tp p, e = .returned (.tuple #[.slice ao 0 cap, .iface tp p]) ∧ Below w1.heap.size w1 w')) : Calls Tryd.prog 5 #[.string s, .string t, .int .i64 k] w (Grew (.bool true) w) := by
  have h0' : (s.size : Int) ≤ 300 := by omega
  have h1' : (t.size : Int) ≤ 300 := by omega
  go_enter Tryd.func5, Tryd.ntmps5
  go_wp2_with fail
  refine H0.out.mono ?_
  rintro e w0 ⟨rfl, hb0⟩
  have HB0 := Lib.hid hb0
  clear hb0
  go_wp2_with fail
  refine (HK.out _).mono ?_
  rintro e w' ⟨rfl, rfl⟩
  go_wp2_with fail
  refine (HA.out _ HB0.out).mono ?_
  rintro e w' ⟨aoHA, capHA, rfl, hb⟩
  have HB1 := Lib.hid (HB0.out.trans (hb.mono HB0.out.size))
  clear hb
  go_wp2_with fail
  refine (HB.out _ HB1.out).mono ?_
  rintro e w' ⟨aoHB, capHB, tpHB, pHB, rfl, hb⟩
  have HB2 := Lib.hid (HB1.out.trans (hb.mono HB1.out.size))
  clear hb
  go_wp2_with fail
  apply bodyPost_ret
  case hr => exact results_tmp rfl _ _ _
  case hd => rfl
  case hR => exact ⟨rfl, HB2.out⟩

theorem deep_size (f : Fo) : f.deep ≤ f.size := by induction f <;> simp_all [Fo.deep, Fo.size] <;> omega

set_option maxRecDepth 100000 in
set_option maxHeartbeats 4000000 in
theorem wraps_dy (s t : ByteArray) (k : Int) (n mb m : Nat) (f : Fo) (w : World) (hn : n ≤ 3) (h0 : s.size ≤ 300) (h1 : t.size ≤ 300) (hf : f.size ≤ 1000) (hd : ¬ f.deep + n ≤ 200) (H0 : Hid (Calls Tryd.prog 6 #[] w (Grew (.bool true) w)))
    (HK : Hid (∀ w, Calls Tryd.prog 7 #[.int .i64 k, .int .i64 4] w fun e w' => e = .returned (.int .i64 (n : Int)) ∧ w = w'))
    (HA : Hid (∀ w1 : World, Below w.heap.size w w1 → Calls Tryd.prog 8 #[.string s] w1 (ReadsAs (.ok f) w1)))
    (HB : Hid (∀ w1 : World, Below w.heap.size w w1 → Calls Tryd.prog 8 #[.string t] w1 fun e w' => ∃ ao cap, e = .returned (.tuple #[.slice ao mb cap, .nilIface]) ∧ Below w1.heap.size w1 w'))
    (HC : Hid (∀ w1 : World, Below w.heap.size w w1 → Calls Tryd.prog 8 #[.string (rep 40 n ++ s ++ ⟨#[10]⟩ ++ rep 41 n)] w1 fun e w' => ∃ ao cap, e = .returned (.tuple #[.slice ao m cap, .nilIface]) ∧ Below w1.heap.size w1 w'))
    (HD : Hid (∀ (ao : Option Addr) (cap : Nat) (w1 : World), Below w.heap.size w w1 → FoAt w1 f ao 0 → Calls Tryd.prog 11 #[.slice ao f.len cap] w1 (Grew (.int .i64 (f.deep : Int)) w1))) : Calls Tryd.prog 5 #[.string s, .string t, .int .i64 k] w (Grew (.bool true) w) := by
  have h0' : (s.size : Int) ≤ 300 := by omega
  have h1' : (t.size : Int) ≤ 300 := by omega
  have hdz : ¬ (f.deep : Int) + (n : Int) ≤ 200 := by omega
  have hdm : f.deep ≤ 1000 := by have := deep_size f; omega
  obtain ⟨dp, hdp⟩ : ∃ dp, dp = f.deep := ⟨_, rfl⟩
  have HDP := Lib.hid hdp
  rw [← hdp] at hdz hdm
  obtain ⟨nf, hnf⟩ : ∃ nf, nf = f.len := ⟨_, rfl⟩
  have HNF := Lib.hid hnf
  clear hdp hnf hd
  go_enter Tryd.func5, Tryd.ntmps5
  go_wp2_with fail
  refine H0.out.mono ?_
  rintro e w0 ⟨rfl, hb0⟩
  have HB0 := Lib.hid hb0
  clear hb0
  go_wp2_with fail
  refine (HK.out _).mono ?_
  rintro e w' ⟨rfl, rfl⟩
  go_wp2_with fail
  refine (HA.out _ HB0.out).mono ?_
  rintro e w1 ⟨aoHA, capHA, rfl, _, hva, hb⟩
  have HB1 := Lib.hid (HB0.out.trans (hb.mono HB0.out.size))
  have HVa := Lib.hid hva
  clear hb hva
  rw [← HNF.out]
  go_wp2_with fail
  refine (HB.out _ HB1.out).mono ?_
  rintro e w2 ⟨aoHB, capHB, rfl, hb⟩
  have HB2 := Lib.hid (HB1.out.trans (hb.mono HB1.out.size))
  have HVa2 := Lib.hid (HVa.out.below hb)
  clear hb
  go_wp2_with fail
  go_loopw [12, 13, 14] (fun vo vsh vi wq => ∃ i : Nat, i ≤ n ∧ vi = .int .i64 i ∧ vo = .string (rep 40 i) ∧ vsh = .string (rep 41 i) ∧ Hid (Below w.heap.size w wq ∧ FoAt wq f aoHA 0)) (fun _ _ vi _ => n + 1 - (intOf vi).toNat)
  case atStart => exact ⟨0, by omega, rfl, rfl, rfl, Lib.hid ⟨HB2.out, HVa2.out⟩⟩
  case round =>
    obtain ⟨i, hin, rfl, rfl, rfl, hR⟩ := hrel
    have z1 := rep_size 40 i
    have z2 := rep_size 41 i
    by_cases hlt : i < n
    · have hiz : (i : Int) < (n : Int) := by omega
      go_wp2_with fail
      go_roundw
      case rel => exact ⟨i + 1, by omega, by go_num, by rw [rep_next], by rw [rep_next], hR⟩
      case measure => simp [intOf]; omega
    · obtain rfl : i = n := by omega
      go_wp2_with fail
      refine (HC.out _ hR.out.1).mono ?_
      rintro e w3 ⟨aoc, capc, rfl, hb3⟩
      have HB3 := Lib.hid (hR.out.1.trans (hb3.mono hR.out.1.size))
      have HVa3 := Lib.hid (hR.out.2.below hb3)
      clear hb3
      have hDD := HD.out aoHA capHA w3 HB3.out HVa3.out
      rw [← HNF.out, ← HDP.out] at hDD
      have HDD := Lib.hid hDD
      clear hDD
      go_wp2_with fail
      refine HDD.out.mono ?_
      rintro e w4 ⟨rfl, hb4⟩
      go_wp2_with fail
      apply bodyPost_ret
      case hr => exact results_tmp rfl _ _ _
      case hd => rfl
      case hR => exact ⟨rfl, HB3.out.trans (hb4.mono HB3.out.size)⟩

set_option maxRecDepth 100000 in
set_option maxHeartbeats 4000000 in
theorem wraps_dn (s t : ByteArray) (k : Int) (n mb : Nat) (f : Fo) (w : World) (hn : n ≤ 3) (h0 : s.size ≤ 300) (h1 : t.size ≤ 300) (hf : f.size ≤ 1000) (hd : ¬ f.deep + n ≤ 200) (H0 : Hid (Calls Tryd.prog 6 #[] w (Grew (.bool true) w)))
    (HK : Hid (∀ w, Calls Tryd.prog 7 #[.int .i64 k, .int .i64 4] w fun e w' => e = .returned (.int .i64 (n : Int)) ∧ w = w'))
    (HA : Hid (∀ w1 : World, Below w.heap.size w w1 → Calls Tryd.prog 8 #[.string s] w1 (ReadsAs (.ok f) w1)))
    (HB : Hid (∀ w1 : World, Below w.heap.size w w1 → Calls Tryd.prog 8 #[.string t] w1 fun e w' => ∃ ao cap, e = .returned (.tuple #[.slice ao mb cap, .nilIface]) ∧ Below w1.heap.size w1 w'))
    (HC : Hid (∀ w1 : World, Below w.heap.size w w1 → Calls Tryd.prog 8 #[.string (rep 40 n ++ s ++ ⟨#[10]⟩ ++ rep 41 n)] w1 fun e w' => ∃ ao cap tp p, e = .returned (.tuple #[.slice ao 0 cap, .iface tp p]) ∧ Below w1.heap.size w1 w'))
    (HD : Hid (∀ (ao : Option Addr) (cap : Nat) (w1 : World), Below w.heap.size w w1 → FoAt w1 f ao 0 → Calls Tryd.prog 11 #[.slice ao f.len cap] w1 (Grew (.int .i64 (f.deep : Int)) w1))) : Calls Tryd.prog 5 #[.string s, .string t, .int .i64 k] w (Grew (.bool true) w) := by
  have h0' : (s.size : Int) ≤ 300 := by omega
  have h1' : (t.size : Int) ≤ 300 := by omega
  have hdz : ¬ (f.deep : Int) + (n : Int) ≤ 200 := by omega
  have hdm : f.deep ≤ 1000 := by have := deep_size f; omega
  obtain ⟨dp, hdp⟩ : ∃ dp, dp = f.deep := ⟨_, rfl⟩
  have HDP := Lib.hid hdp
  rw [← hdp] at hdz hdm
  obtain ⟨nf, hnf⟩ : ∃ nf, nf = f.len := ⟨_, rfl⟩
  have HNF := Lib.hid hnf
  clear hdp hnf hd
  go_enter Tryd.func5, Tryd.ntmps5
  go_wp2_with fail
  refine H0.out.mono ?_
  rintro e w0 ⟨rfl, hb0⟩
  have HB0 := Lib.hid hb0
  clear hb0
  go_wp2_with fail
  refine (HK.out _).mono ?_
  rintro e w' ⟨rfl, rfl⟩
  go_wp2_with fail
  refine (HA.out _ HB0.out).mono ?_
  rintro e w1 ⟨aoHA, capHA, rfl, _, hva, hb⟩
  have HB1 := Lib.hid (HB0.out.trans (hb.mono HB0.out.size))
  have HVa := Lib.hid hva
  clear hb hva
  rw [← HNF.out]
  go_wp2_with fail
  refine (HB.out _ HB1.out).mono ?_
  rintro e w2 ⟨aoHB, capHB, rfl, hb⟩
  have HB2 := Lib.hid (HB1.out.trans (hb.mono HB1.out.size))
  have HVa2 := Lib.hid (HVa.out.below hb)
  clear hb
  go_wp2_with fail
  go_loopw [12, 13, 14] (fun vo vsh vi wq => ∃ i : Nat, i ≤ n ∧ vi = .int .i64 i ∧ vo = .string (rep 40 i) ∧ vsh = .string (rep 41 i) ∧ Hid (Below w.heap.size w wq ∧ FoAt wq f aoHA 0)) (fun _ _ vi _ => n + 1 - (intOf vi).toNat)
  case atStart => exact ⟨0, by omega, rfl, rfl, rfl, Lib.hid ⟨HB2.out, HVa2.out⟩⟩
  case round =>
    obtain ⟨i, hin, rfl, rfl, rfl, hR⟩ := hrel
    have z1 := rep_size 40 i
    have z2 := rep_size 41 i
    by_cases hlt : i < n
    · have hiz : (i : Int) < (n : Int) := by omega
      go_wp2_with fail
      go_roundw
      case rel => exact ⟨i + 1, by omega, by go_num, by rw [rep_next], by rw [rep_next], hR⟩
      case measure => simp [intOf]; omega
    · obtain rfl : i = n := by omega
      go_wp2_with fail
      refine (HC.out _ hR.out.1).mono ?_
      rintro e w3 ⟨aoc, capc, tpc, pc, rfl, hb3⟩
      have HB3 := Lib.hid (hR.out.1.trans (hb3.mono hR.out.1.size))
      have HVa3 := Lib.hid (hR.out.2.below hb3)
      clear hb3
      have hDD := HD.out aoHA capHA w3 HB3.out HVa3.out
      rw [← HNF.out, ← HDP.out] at hDD
      have HDD := Lib.hid hDD
      clear hDD
      go_wp2_with fail
      refine HDD.out.mono ?_
      rintro e w4 ⟨rfl, hb4⟩
      go_wp2_with fail
      apply bodyPost_ret
      case hr => exact results_tmp rfl _ _ _
      case hd => rfl
      case hR => exact ⟨rfl, HB3.out.trans (hb4.mono HB3.out.size)⟩


theorem wraps_core (s t : ByteArray) (k : Int) (w : World)
    (H0 : Hid (Calls Tryd.prog 6 #[] w (Grew (.bool true) w)))
    (HP : Hid (∀ (s : ByteArray) (w1 : World), s.size ≤ 65536 → Below w.heap.size w w1 → Calls Tryd.prog 8 #[.string s] w1 (ReadsAs (parseF s.data.toList) w1)))
    (HD : Hid (∀ (f : Fo) (ao : Option Addr) (cap : Nat) (w1 : World), f.wok → f.size ≤ 1000 → Below w.heap.size w w1 → FoAt w1 f ao 0 → Calls Tryd.prog 11 #[.slice ao f.len cap] w1 (Grew (.int .i64 (f.deep : Int)) w1)))
    (HS : Hid (∀ (f g : Fo) (ao ao' : Option Addr) (cap cap' : Nat) (w1 : World), f.same g = true → g.size ≤ 1000 → Below w.heap.size w w1 → FoAt w1 f ao 0 → FoAt w1 g ao' 0 → Calls Tryd.prog 13 #[.slice ao f.len cap, .slice ao' g.len cap'] w1 (Grew (.bool true) w1))) :
    Calls Tryd.prog 5 #[.string s, .string t, .int .i64 k] w (Grew (.bool true) w) := by
  by_cases z1 : 300 < s.size
  · exact wraps_long1 s t k w z1 H0
  by_cases z2 : 300 < t.size
  · exact wraps_long2 s t k w (by omega) z2 H0
  have y1 : s.size ≤ 300 := by omega
  have y2 : t.size ≤ 300 := by omega
  have k0 : 0 ≤ k % 4 := Int.emod_nonneg k (by decide)
  have k4 : k % 4 < 4 := Int.emod_lt_of_pos k (by decide)
  have HK := number_any k 4 (by decide) (by decide)
  generalize k % 4 = r at k0 k4 HK
  obtain ⟨n, rfl⟩ : ∃ n : Nat, r = n := ⟨r.toNat, by omega⟩
  have hn : n ≤ 3 := by omega
  have HK := Lib.hid HK
  have no : ∀ (x : ByteArray), x.size ≤ 65536 → (parseF x.data.toList).fo = none → Hid (∀ w1 : World, Below w.heap.size w w1 → Calls Tryd.prog 8 #[.string x] w1 fun e w' => ∃ ao cap tp p, e = .returned (.tuple #[.slice ao 0 cap, .iface tp p]) ∧ Below w1.heap.size w1 w') :=
    fun x hx h => Lib.hid fun w1 hb => (HP.out x w1 hx hb).mono fun e w' q => q.no h
  have yes : ∀ (x : ByteArray) (f : Fo), x.size ≤ 65536 → parseF x.data.toList = .ok f → Hid (∀ w1 : World, Below w.heap.size w w1 → Calls Tryd.prog 8 #[.string x] w1 (ReadsAs (.ok f) w1)) :=
    fun x f hx h => Lib.hid fun w1 hb => by have := HP.out x w1 hx hb; rw [h] at this; exact this
  have weak : ∀ (x : ByteArray) (f : Fo), x.size ≤ 65536 → parseF x.data.toList = .ok f → Hid (∀ w1 : World, Below w.heap.size w w1 → Calls Tryd.prog 8 #[.string x] w1 fun e w' => ∃ ao cap, e = .returned (.tuple #[.slice ao f.len cap, .nilIface]) ∧ Below w1.heap.size w1 w') :=
    fun x f hx h => Lib.hid fun w1 hb => ((yes x f hx h).out w1 hb).mono fun e w' q => by
      obtain ⟨ao, cap, e1, _, _, e2⟩ := q.ok
      exact ⟨ao, cap, e1, e2⟩
  have x1 : s.size ≤ 65536 := by omega
  have x2 : t.size ≤ 65536 := by omega
  rcases rd_cases (parseF s.data.toList) with ⟨f, hf⟩ | hf
  · rcases rd_cases (parseF t.data.toList) with ⟨g, hg⟩ | hg
    · have sf := parse_size _ _ hf
      have sg := parse_size _ _ hg
      rw [← Lib.size_eq] at sf sg
      have HDf := Lib.hid (fun ao cap w1 hb ha => HD.out f ao cap w1 (fit_wok (parse_fit s f hf)) (by omega) hb ha)
      have hc : (rep 40 n ++ s ++ ⟨#[10]⟩ ++ rep 41 n).size ≤ 65536 := by
        rw [ByteArray.size_append, ByteArray.size_append, ByteArray.size_append, rep_size, rep_size, show (⟨#[10]⟩ : ByteArray).size = 1 from rfl]; omega
      have hdd : (rep 40 n ++ s ++ ⟨#[10]⟩ ++ rep 41 n).data.toList = List.replicate n 40 ++ (s.data.toList ++ 10 :: List.replicate n 41) := by
        rw [ByteArray.data_append, Array.toList_append, ByteArray.data_append, Array.toList_append, ByteArray.data_append, Array.toList_append, rep_list, rep_list]
        simp
      by_cases hd : f.deep + n ≤ 200
      · have h1 := parse_wraps s.data.toList f n hf hd
        rw [← hdd] at h1
        have he : (s ++ ⟨#[10]⟩ ++ t).size ≤ 65536 := by
          rw [ByteArray.size_append, ByteArray.size_append, show (⟨#[10]⟩ : ByteArray).size = 1 from rfl]; omega
        have h2 := parse_two s.data.toList t.data.toList f g hf hg
        have h3 : (s ++ ⟨#[10]⟩ ++ t).data.toList = s.data.toList ++ 10 :: t.data.toList := by
          rw [ByteArray.data_append, Array.toList_append, ByteArray.data_append, Array.toList_append]
          simp
        rw [← h3] at h2
        exact wraps_main s t k n f g (f.on n) (g.on _) w hn y1 y2 (by omega) (by omega) (Fo.on_len _ _) (Fo.on_len _ _) hd (Fo.same_app _ _ _ (Fo.same_on _ _)) (Fo.same_on _ _) H0 HK (yes s f x1 hf) (yes t g x2 hg) (yes _ _ hc h1) (yes _ _ he h2) HDf HS
      · rcases rd_cases (parseF (rep 40 n ++ s ++ ⟨#[10]⟩ ++ rep 41 n).data.toList) with ⟨c, hcc⟩ | hcc
        · exact wraps_dy s t k n g.len c.len f w hn y1 y2 (by omega) hd H0 HK (yes s f x1 hf) (weak t g x2 hg) (weak _ _ hc hcc) HDf
        · exact wraps_dn s t k n g.len f w hn y1 y2 (by omega) hd H0 HK (yes s f x1 hf) (weak t g x2 hg) (no _ hc hcc) HDf
    · exact wraps_yn s t k n f.len w y1 y2 H0 HK (weak s f x1 hf) (no t x2 hg)
  · rcases rd_cases (parseF t.data.toList) with ⟨g, hg⟩ | hg
    · exact wraps_ny s t k n g.len w y1 y2 H0 HK (no s x1 hf) (weak t g x2 hg)
    · exact wraps_nn s t k n w y1 y2 H0 HK (no s x1 hf) (no t x2 hg)
end Go.Proofs.YtlblhlnpmdfblaaDoor
