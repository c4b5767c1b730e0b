/- gristmillref1.FloParse: the ways through a text that begins with a sign. Conditions: as each says. -/
import Derived.Test.YtpdiajagdehfkaaDoorR8
namespace Go.Proofs.YtpdiajagdehfkaaDoor
open Go.RowKit Ieee

set_option maxRecDepth 100000 in
set_option maxHeartbeats 4000000 in
theorem fp11_is (s t x y z : ByteArray) (i m e : Nat) (b2 : Bool) (w : World) (hS : FpS1 s t) (hT : FpT t x y i) (hN : FpN1 y z)
    (d1 : ∀ w, Calls Tryd.prog 33 #[.string x, .int .i64 16] w fun e' w' => e' = .returned (.tuple #[.int .i64 m, .bool false]) ∧ w = w')
    (d2 : ∀ w, Calls Tryd.prog 33 #[.string z, .int .i64 4] w fun e' w' => e' = .returned (.tuple #[.int .i64 e, .bool b2]) ∧ w = w') :
    Calls Tryd.prog 18 #[.string s] w fun e w' => e = .returned (.tuple #[.int .u64 0, .bool false]) ∧ w = w' := by
  obtain ⟨h1, hne, h0, hfst, hsl0⟩ := hS
  obtain ⟨hmax, h2, h3, hi, hp, hpi, hs1, hs2⟩ := hT
  obtain ⟨hyne, hy0, hyf, hslz⟩ := hN
  have HP := Lib.hid hp
  have D1 := Lib.hid d1
  have D2 := Lib.hid d2
  clear hp d1 d2
  go_enter Tryd.func18, Tryd.ntmps18
  go_wp2_with fail
  go_loop [6] (fun vi => ∃ k : Nat, k ≤ i ∧ vi = .int .i64 k) (fun vi => i - (intOf vi).toNat)
  case atStart => exact ⟨0, by omega, rfl⟩
  case round =>
    obtain ⟨k, hk, rfl⟩ := hrel
    by_cases hki : k < i
    · have hks : k < t.size := by omega
      have hkp := HP.out k hks hki
      go_wp2_with fail
      go_round
      case rel => exact ⟨k + 1, by omega, by go_num⟩
      case measure => simp [intOf]; omega
    · obtain rfl : k = i := by omega
      go_wp2_with fail
      refine (D1.out _).mono ?_
      rintro e' w' ⟨rfl, rfl⟩
      go_wp2_with fail
      refine (D2.out _).mono ?_
      rintro e' w' ⟨rfl, rfl⟩
      clear HP D1 D2 h1 hne hfst h2 h3 hpi hs1 hs2 hyne hyf hsl0 hslz
      go_wp2_with fail
      go_ret2
      exact ⟨rfl, rfl⟩

set_option maxRecDepth 100000 in
set_option maxHeartbeats 4000000 in
theorem fp11_has (s t x y z : ByteArray) (i m e : Nat) (w : World) (hS : FpS1 s t) (hT : FpT t x y i) (hN : FpN1 y z)
    (d1 : ∀ w, Calls Tryd.prog 33 #[.string x, .int .i64 16] w fun e' w' => e' = .returned (.tuple #[.int .i64 m, .bool true]) ∧ w = w')
    (d2 : ∀ w, Calls Tryd.prog 33 #[.string z, .int .i64 4] w fun e' w' => e' = .returned (.tuple #[.int .i64 e, .bool false]) ∧ w = w') :
    Calls Tryd.prog 18 #[.string s] w fun e w' => e = .returned (.tuple #[.int .u64 0, .bool false]) ∧ w = w' := by
  obtain ⟨h1, hne, h0, hfst, hsl0⟩ := hS
  obtain ⟨hmax, h2, h3, hi, hp, hpi, hs1, hs2⟩ := hT
  obtain ⟨hyne, hy0, hyf, hslz⟩ := hN
  have HP := Lib.hid hp
  have D1 := Lib.hid d1
  have D2 := Lib.hid d2
  clear hp d1 d2
  go_enter Tryd.func18, Tryd.ntmps18
  go_wp2_with fail
  go_loop [6] (fun vi => ∃ k : Nat, k ≤ i ∧ vi = .int .i64 k) (fun vi => i - (intOf vi).toNat)
  case atStart => exact ⟨0, by omega, rfl⟩
  case round =>
    obtain ⟨k, hk, rfl⟩ := hrel
    by_cases hki : k < i
    · have hks : k < t.size := by omega
      have hkp := HP.out k hks hki
      go_wp2_with fail
      go_round
      case rel => exact ⟨k + 1, by omega, by go_num⟩
      case measure => simp [intOf]; omega
    · obtain rfl : k = i := by omega
      go_wp2_with fail
      refine (D1.out _).mono ?_
      rintro e' w' ⟨rfl, rfl⟩
      go_wp2_with fail
      refine (D2.out _).mono ?_
      rintro e' w' ⟨rfl, rfl⟩
      clear HP D1 D2 h1 hne hfst h2 h3 hpi hs1 hs2 hyne hyf hsl0 hslz
      go_wp2_with fail
      go_ret2
      exact ⟨rfl, rfl⟩

set_option maxRecDepth 100000 in
set_option maxHeartbeats 4000000 in
theorem fp11_even (s t x y z : ByteArray) (i m e : Nat) (w : World) (hS : FpS1 s t) (hT : FpT t x y i) (hN : FpN1 y z)
    (d1 : ∀ w, Calls Tryd.prog 33 #[.string x, .int .i64 16] w fun e' w' => e' = .returned (.tuple #[.int .i64 m, .bool true]) ∧ w = w')
    (d2 : ∀ w, Calls Tryd.prog 33 #[.string z, .int .i64 4] w fun e' w' => e' = .returned (.tuple #[.int .i64 e, .bool true]) ∧ w = w') (hm : ((m : Int) % 2 == 0) = true) :
    Calls Tryd.prog 18 #[.string s] w fun e w' => e = .returned (.tuple #[.int .u64 0, .bool false]) ∧ w = w' := by
  obtain ⟨h1, hne, h0, hfst, hsl0⟩ := hS
  obtain ⟨hmax, h2, h3, hi, hp, hpi, hs1, hs2⟩ := hT
  obtain ⟨hyne, hy0, hyf, hslz⟩ := hN
  have HP := Lib.hid hp
  have D1 := Lib.hid d1
  have D2 := Lib.hid d2
  clear hp d1 d2
  go_enter Tryd.func18, Tryd.ntmps18
  go_wp2_with fail
  go_loop [6] (fun vi => ∃ k : Nat, k ≤ i ∧ vi = .int .i64 k) (fun vi => i - (intOf vi).toNat)
  case atStart => exact ⟨0, by omega, rfl⟩
  case round =>
    obtain ⟨k, hk, rfl⟩ := hrel
    by_cases hki : k < i
    · have hks : k < t.size := by omega
      have hkp := HP.out k hks hki
      go_wp2_with fail
      go_round
      case rel => exact ⟨k + 1, by omega, by go_num⟩
      case measure => simp [intOf]; omega
    · obtain rfl : k = i := by omega
      go_wp2_with fail
      refine (D1.out _).mono ?_
      rintro e' w' ⟨rfl, rfl⟩
      go_wp2_with fail
      refine (D2.out _).mono ?_
      rintro e' w' ⟨rfl, rfl⟩
      clear HP D1 D2 h1 hne hfst h2 h3 hpi hs1 hs2 hyne hyf hsl0 hslz
      go_wp2_with fail
      go_ret2
      exact ⟨rfl, rfl⟩

set_option maxRecDepth 100000 in
set_option maxHeartbeats 4000000 in
theorem fp11_big (s t x y z : ByteArray) (i m e : Nat) (w : World) (hS : FpS1 s t) (hT : FpT t x y i) (hN : FpN1 y z)
    (d1 : ∀ w, Calls Tryd.prog 33 #[.string x, .int .i64 16] w fun e' w' => e' = .returned (.tuple #[.int .i64 m, .bool true]) ∧ w = w')
    (d2 : ∀ w, Calls Tryd.prog 33 #[.string z, .int .i64 4] w fun e' w' => e' = .returned (.tuple #[.int .i64 e, .bool true]) ∧ w = w') (hm : ((m : Int) % 2 == 0) = false) (hm1 : decide ((9007199254740992 : Int) ≤ (m : Int)) = true) :
    Calls Tryd.prog 18 #[.string s] w fun e w' => e = .returned (.tuple #[.int .u64 0, .bool false]) ∧ w = w' := by
  obtain ⟨h1, hne, h0, hfst, hsl0⟩ := hS
  obtain ⟨hmax, h2, h3, hi, hp, hpi, hs1, hs2⟩ := hT
  obtain ⟨hyne, hy0, hyf, hslz⟩ := hN
  have HP := Lib.hid hp
  have D1 := Lib.hid d1
  have D2 := Lib.hid d2
  clear hp d1 d2
  go_enter Tryd.func18, Tryd.ntmps18
  go_wp2_with fail
  go_loop [6] (fun vi => ∃ k : Nat, k ≤ i ∧ vi = .int .i64 k) (fun vi => i - (intOf vi).toNat)
  case atStart => exact ⟨0, by omega, rfl⟩
  case round =>
    obtain ⟨k, hk, rfl⟩ := hrel
    by_cases hki : k < i
    · have hks : k < t.size := by omega
      have hkp := HP.out k hks hki
      go_wp2_with fail
      go_round
      case rel => exact ⟨k + 1, by omega, by go_num⟩
      case measure => simp [intOf]; omega
    · obtain rfl : k = i := by omega
      go_wp2_with fail
      refine (D1.out _).mono ?_
      rintro e' w' ⟨rfl, rfl⟩
      go_wp2_with fail
      refine (D2.out _).mono ?_
      rintro e' w' ⟨rfl, rfl⟩
      clear HP D1 D2 h1 hne hfst h2 h3 hpi hs1 hs2 hyne hyf hsl0 hslz
      go_wp2_with fail
      go_ret2
      exact ⟨rfl, rfl⟩

set_option maxRecDepth 100000 in
set_option maxHeartbeats 4000000 in
theorem fp11_negz (s t x y z : ByteArray) (i m e : Nat) (w : World) (hS : FpS1 s t) (hT : FpT t x y i) (hN : FpN1 y z)
    (d1 : ∀ w, Calls Tryd.prog 33 #[.string x, .int .i64 16] w fun e' w' => e' = .returned (.tuple #[.int .i64 m, .bool true]) ∧ w = w')
    (d2 : ∀ w, Calls Tryd.prog 33 #[.string z, .int .i64 4] w fun e' w' => e' = .returned (.tuple #[.int .i64 e, .bool true]) ∧ w = w') (hm : ((m : Int) % 2 == 0) = false) (hm1 : decide ((9007199254740992 : Int) ≤ (m : Int)) = false) (hez : ((e : Int) == 0) = true) :
    Calls Tryd.prog 18 #[.string s] w fun e w' => e = .returned (.tuple #[.int .u64 0, .bool false]) ∧ w = w' := by
  obtain ⟨h1, hne, h0, hfst, hsl0⟩ := hS
  obtain ⟨hmax, h2, h3, hi, hp, hpi, hs1, hs2⟩ := hT
  obtain ⟨hyne, hy0, hyf, hslz⟩ := hN
  have HP := Lib.hid hp
  have D1 := Lib.hid d1
  have D2 := Lib.hid d2
  clear hp d1 d2
  go_enter Tryd.func18, Tryd.ntmps18
  go_wp2_with fail
  go_loop [6] (fun vi => ∃ k : Nat, k ≤ i ∧ vi = .int .i64 k) (fun vi => i - (intOf vi).toNat)
  case atStart => exact ⟨0, by omega, rfl⟩
  case round =>
    obtain ⟨k, hk, rfl⟩ := hrel
    by_cases hki : k < i
    · have hks : k < t.size := by omega
      have hkp := HP.out k hks hki
      go_wp2_with fail
      go_round
      case rel => exact ⟨k + 1, by omega, by go_num⟩
      case measure => simp [intOf]; omega
    · obtain rfl : k = i := by omega
      go_wp2_with fail
      refine (D1.out _).mono ?_
      rintro e' w' ⟨rfl, rfl⟩
      go_wp2_with fail
      refine (D2.out _).mono ?_
      rintro e' w' ⟨rfl, rfl⟩
      clear HP D1 D2 h1 hne hfst h2 h3 hpi hs1 hs2 hyne hyf hsl0 hslz
      go_wp2_with fail
      go_ret2
      exact ⟨rfl, rfl⟩

set_option maxRecDepth 100000 in
set_option maxHeartbeats 4000000 in
theorem fp11_low (s t x y z : ByteArray) (i m e L : Nat) (w : World) (hS : FpS1 s t) (hT : FpT t x y i) (hN : FpN1 y z)
    (d1 : ∀ w, Calls Tryd.prog 33 #[.string x, .int .i64 16] w fun e' w' => e' = .returned (.tuple #[.int .i64 m, .bool true]) ∧ w = w')
    (d2 : ∀ w, Calls Tryd.prog 33 #[.string z, .int .i64 4] w fun e' w' => e' = .returned (.tuple #[.int .i64 e, .bool true]) ∧ w = w') (hm : ((m : Int) % 2 == 0) = false) (hm1 : decide ((9007199254740992 : Int) ≤ (m : Int)) = false) (hez : ((e : Int) == 0) = false) (he : e < 10000) (hmb : m < 9007199254740992) (hL1 : 1 ≤ L) (hL2 : L ≤ 53) (hLp : ∀ j, j < L → 0 < m / 2 ^ j) (hL0 : m / 2 ^ L = 0) (hlow : -(e : Int) < -1074) :
    Calls Tryd.prog 18 #[.string s] w fun e w' => e = .returned (.tuple #[.int .u64 0, .bool false]) ∧ w = w' := by
  obtain ⟨h1, hne, h0, hfst, hsl0⟩ := hS
  obtain ⟨hmax, h2, h3, hi, hp, hpi, hs1, hs2⟩ := hT
  obtain ⟨hyne, hy0, hyf, hslz⟩ := hN
  have HP := Lib.hid hp
  have D1 := Lib.hid d1
  have D2 := Lib.hid d2
  clear hp d1 d2
  have HLp := Lib.hid hLp
  have HL0 := Lib.hid hL0
  have HMB := Lib.hid hmb
  clear hLp hL0 hmb
  go_enter Tryd.func18, Tryd.ntmps18
  go_wp2_with fail
  go_loop [6] (fun vi => ∃ k : Nat, k ≤ i ∧ vi = .int .i64 k) (fun vi => i - (intOf vi).toNat)
  case atStart => exact ⟨0, by omega, rfl⟩
  case round =>
    obtain ⟨k, hk, rfl⟩ := hrel
    by_cases hki : k < i
    · have hks : k < t.size := by omega
      have hkp := HP.out k hks hki
      go_wp2_with fail
      go_round
      case rel => exact ⟨k + 1, by omega, by go_num⟩
      case measure => simp [intOf]; omega
    · obtain rfl : k = i := by omega
      go_wp2_with fail
      refine (D1.out _).mono ?_
      rintro e' w' ⟨rfl, rfl⟩
      go_wp2_with fail
      refine (D2.out _).mono ?_
      rintro e' w' ⟨rfl, rfl⟩
      clear HP D1 D2 h1 hne hfst h2 h3 hpi hs1 hs2 hyne hyf hsl0 hslz
      go_wp2_with fail
      go_loop [13, 14] (fun vl vk => ∃ j kk : Nat, vl = .int .i64 j ∧ vk = .int .i64 kk ∧ j ≤ L ∧ Hid (kk = m / 2 ^ j)) (fun vl _ => L - (intOf vl).toNat)
      case atStart => exact ⟨0, m, rfl, rfl, by omega, Lib.hid (by simp)⟩
      case round =>
        obtain ⟨j, kk, rfl, rfl, hj, hkk⟩ := hrel
        have hkb : kk < 9007199254740992 := by rw [hkk.out]; exact Nat.lt_of_le_of_lt (Nat.div_le_self _ _) HMB.out
        by_cases hjL : j < L
        · have hpos : 0 < kk := by rw [hkk.out]; exact HLp.out j hjL
          have HN : Hid (kk / 2 = m / 2 ^ (j + 1)) := Lib.hid (by rw [hkk.out, Nat.pow_succ, Nat.div_div_eq_div_mul])
          go_wp2_with fail
          go_round
          case rel => exact ⟨j + 1, kk / 2, by go_num, by go_num, by omega, HN⟩
          case measure => simp [intOf]; omega
        · obtain rfl : j = L := by omega
          have hz0 : kk = 0 := by rw [hkk.out]; exact HL0.out
          subst hz0
          clear hkk
          go_wp2_with fail
          
          go_ret2
          exact ⟨rfl, rfl⟩

set_option maxRecDepth 100000 in
set_option maxHeartbeats 4000000 in
theorem fp11_norm (s t x y z : ByteArray) (i m e L : Nat) (Z H Y A : Nat) (w : World) (hS : FpS1 s t) (hT : FpT t x y i) (hN : FpN1 y z)
    (d1 : ∀ w, Calls Tryd.prog 33 #[.string x, .int .i64 16] w fun e' w' => e' = .returned (.tuple #[.int .i64 m, .bool true]) ∧ w = w')
    (d2 : ∀ w, Calls Tryd.prog 33 #[.string z, .int .i64 4] w fun e' w' => e' = .returned (.tuple #[.int .i64 e, .bool true]) ∧ w = w') (hm : ((m : Int) % 2 == 0) = false) (hm1 : decide ((9007199254740992 : Int) ≤ (m : Int)) = false) (hez : ((e : Int) == 0) = false) (he : e < 10000) (hmb : m < 9007199254740992) (hL1 : 1 ≤ L) (hL2 : L ≤ 53) (hLp : ∀ j, j < L → 0 < m / 2 ^ j) (hL0 : m / 2 ^ L = 0) (hr1 : ¬ 1023 < -(e : Int) + L - 1) (hr2 : ¬ -(e : Int) < -1074) (hr3 : -1022 ≤ -(e : Int) + L - 1) (w1 : IntKind.u64.wrap ((-(e : Int) + L - 1 + 1023) * 4503599627370496) = (Z : Int)) (w3 : bits BinOp.and IntKind.u64 (IntKind.u64.wrap (IntKind.u64.wrap (m : Int) * 2 ^ (53 - L))) 4503599627370495 = (H : Int)) (w4 : bits BinOp.or IntKind.u64 9223372036854775808 (Z : Int) = (Y : Int)) (w5 : bits BinOp.or IntKind.u64 (Y : Int) (H : Int) = (A : Int)) :
    Calls Tryd.prog 18 #[.string s] w fun e w' => e = .returned (.tuple #[.int .u64 A, .bool true]) ∧ w = w' := by
  obtain ⟨h1, hne, h0, hfst, hsl0⟩ := hS
  obtain ⟨hmax, h2, h3, hi, hp, hpi, hs1, hs2⟩ := hT
  obtain ⟨hyne, hy0, hyf, hslz⟩ := hN
  have HP := Lib.hid hp
  have D1 := Lib.hid d1
  have D2 := Lib.hid d2
  clear hp d1 d2
  have HLp := Lib.hid hLp
  have HL0 := Lib.hid hL0
  have HMB := Lib.hid hmb
  clear hLp hL0 hmb
  go_enter Tryd.func18, Tryd.ntmps18
  go_wp2_with fail
  go_loop [6] (fun vi => ∃ k : Nat, k ≤ i ∧ vi = .int .i64 k) (fun vi => i - (intOf vi).toNat)
  case atStart => exact ⟨0, by omega, rfl⟩
  case round =>
    obtain ⟨k, hk, rfl⟩ := hrel
    by_cases hki : k < i
    · have hks : k < t.size := by omega
      have hkp := HP.out k hks hki
      go_wp2_with fail
      go_round
      case rel => exact ⟨k + 1, by omega, by go_num⟩
      case measure => simp [intOf]; omega
    · obtain rfl : k = i := by omega
      go_wp2_with fail
      refine (D1.out _).mono ?_
      rintro e' w' ⟨rfl, rfl⟩
      go_wp2_with fail
      refine (D2.out _).mono ?_
      rintro e' w' ⟨rfl, rfl⟩
      clear HP D1 D2 h1 hne hfst h2 h3 hpi hs1 hs2 hyne hyf hsl0 hslz
      go_wp2_with fail
      go_loop [13, 14] (fun vl vk => ∃ j kk : Nat, vl = .int .i64 j ∧ vk = .int .i64 kk ∧ j ≤ L ∧ Hid (kk = m / 2 ^ j)) (fun vl _ => L - (intOf vl).toNat)
      case atStart => exact ⟨0, m, rfl, rfl, by omega, Lib.hid (by simp)⟩
      case round =>
        obtain ⟨j, kk, rfl, rfl, hj, hkk⟩ := hrel
        have hkb : kk < 9007199254740992 := by rw [hkk.out]; exact Nat.lt_of_le_of_lt (Nat.div_le_self _ _) HMB.out
        by_cases hjL : j < L
        · have hpos : 0 < kk := by rw [hkk.out]; exact HLp.out j hjL
          have HN : Hid (kk / 2 = m / 2 ^ (j + 1)) := Lib.hid (by rw [hkk.out, Nat.pow_succ, Nat.div_div_eq_div_mul])
          go_wp2_with fail
          go_round
          case rel => exact ⟨j + 1, kk / 2, by go_num, by go_num, by omega, HN⟩
          case measure => simp [intOf]; omega
        · obtain rfl : j = L := by omega
          have hz0 : kk = 0 := by rw [hkk.out]; exact HL0.out
          subst hz0
          clear hkk
          go_wp2_with fail
          
          go_ret2
          exact ⟨rfl, rfl⟩

set_option maxRecDepth 100000 in
set_option maxHeartbeats 4000000 in
theorem fp11_sub (s t x y z : ByteArray) (i m e L : Nat) (G A : Nat) (w : World) (hS : FpS1 s t) (hT : FpT t x y i) (hN : FpN1 y z)
    (d1 : ∀ w, Calls Tryd.prog 33 #[.string x, .int .i64 16] w fun e' w' => e' = .returned (.tuple #[.int .i64 m, .bool true]) ∧ w = w')
    (d2 : ∀ w, Calls Tryd.prog 33 #[.string z, .int .i64 4] w fun e' w' => e' = .returned (.tuple #[.int .i64 e, .bool true]) ∧ w = w') (hm : ((m : Int) % 2 == 0) = false) (hm1 : decide ((9007199254740992 : Int) ≤ (m : Int)) = false) (hez : ((e : Int) == 0) = false) (he : e < 10000) (hmb : m < 9007199254740992) (hL1 : 1 ≤ L) (hL2 : L ≤ 53) (hLp : ∀ j, j < L → 0 < m / 2 ^ j) (hL0 : m / 2 ^ L = 0) (hr1 : ¬ 1023 < -(e : Int) + L - 1) (hr2 : ¬ -(e : Int) < -1074) (hr3 : ¬ -1022 ≤ -(e : Int) + L - 1) (w2 : IntKind.u64.wrap (IntKind.u64.wrap (m : Int) * 2 ^ (-(e : Int) + 1074).toNat) = (G : Int)) (w5 : bits BinOp.or IntKind.u64 9223372036854775808 (G : Int) = (A : Int)) :
    Calls Tryd.prog 18 #[.string s] w fun e w' => e = .returned (.tuple #[.int .u64 A, .bool true]) ∧ w = w' := by
  obtain ⟨h1, hne, h0, hfst, hsl0⟩ := hS
  obtain ⟨hmax, h2, h3, hi, hp, hpi, hs1, hs2⟩ := hT
  obtain ⟨hyne, hy0, hyf, hslz⟩ := hN
  have HP := Lib.hid hp
  have D1 := Lib.hid d1
  have D2 := Lib.hid d2
  clear hp d1 d2
  have HLp := Lib.hid hLp
  have HL0 := Lib.hid hL0
  have HMB := Lib.hid hmb
  clear hLp hL0 hmb
  go_enter Tryd.func18, Tryd.ntmps18
  go_wp2_with fail
  go_loop [6] (fun vi => ∃ k : Nat, k ≤ i ∧ vi = .int .i64 k) (fun vi => i - (intOf vi).toNat)
  case atStart => exact ⟨0, by omega, rfl⟩
  case round =>
    obtain ⟨k, hk, rfl⟩ := hrel
    by_cases hki : k < i
    · have hks : k < t.size := by omega
      have hkp := HP.out k hks hki
      go_wp2_with fail
      go_round
      case rel => exact ⟨k + 1, by omega, by go_num⟩
      case measure => simp [intOf]; omega
    · obtain rfl : k = i := by omega
      go_wp2_with fail
      refine (D1.out _).mono ?_
      rintro e' w' ⟨rfl, rfl⟩
      go_wp2_with fail
      refine (D2.out _).mono ?_
      rintro e' w' ⟨rfl, rfl⟩
      clear HP D1 D2 h1 hne hfst h2 h3 hpi hs1 hs2 hyne hyf hsl0 hslz
      go_wp2_with fail
      go_loop [13, 14] (fun vl vk => ∃ j kk : Nat, vl = .int .i64 j ∧ vk = .int .i64 kk ∧ j ≤ L ∧ Hid (kk = m / 2 ^ j)) (fun vl _ => L - (intOf vl).toNat)
      case atStart => exact ⟨0, m, rfl, rfl, by omega, Lib.hid (by simp)⟩
      case round =>
        obtain ⟨j, kk, rfl, rfl, hj, hkk⟩ := hrel
        have hkb : kk < 9007199254740992 := by rw [hkk.out]; exact Nat.lt_of_le_of_lt (Nat.div_le_self _ _) HMB.out
        by_cases hjL : j < L
        · have hpos : 0 < kk := by rw [hkk.out]; exact HLp.out j hjL
          have HN : Hid (kk / 2 = m / 2 ^ (j + 1)) := Lib.hid (by rw [hkk.out, Nat.pow_succ, Nat.div_div_eq_div_mul])
          go_wp2_with fail
          go_round
          case rel => exact ⟨j + 1, kk / 2, by go_num, by go_num, by omega, HN⟩
          case measure => simp [intOf]; omega
        · obtain rfl : j = L := by omega
          have hz0 : kk = 0 := by rw [hkk.out]; exact HL0.out
          subst hz0
          clear hkk
          go_wp2_with fail
          
          go_ret2
          exact ⟨rfl, rfl⟩

set_option maxRecDepth 100000 in
set_option maxHeartbeats 4000000 in
theorem fp12_is (s t x y : ByteArray) (i m e : Nat) (b2 : Bool) (w : World) (hS : FpS1 s t) (hT : FpT t x y i) (hN : FpN2 y)
    (d1 : ∀ w, Calls Tryd.prog 33 #[.string x, .int .i64 16] w fun e' w' => e' = .returned (.tuple #[.int .i64 m, .bool false]) ∧ w = w')
    (d2 : ∀ w, Calls Tryd.prog 33 #[.string y, .int .i64 4] w fun e' w' => e' = .returned (.tuple #[.int .i64 e, .bool b2]) ∧ w = w') :
    Calls Tryd.prog 18 #[.string s] w fun e w' => e = .returned (.tuple #[.int .u64 0, .bool false]) ∧ w = w' := by
  obtain ⟨h1, hne, h0, hfst, hsl0⟩ := hS
  obtain ⟨hmax, h2, h3, hi, hp, hpi, hs1, hs2⟩ := hT
  obtain ⟨hyne, hy0, hyf⟩ := hN
  have HP := Lib.hid hp
  have D1 := Lib.hid d1
  have D2 := Lib.hid d2
  clear hp d1 d2
  go_enter Tryd.func18, Tryd.ntmps18
  go_wp2_with fail
  go_loop [6] (fun vi => ∃ k : Nat, k ≤ i ∧ vi = .int .i64 k) (fun vi => i - (intOf vi).toNat)
  case atStart => exact ⟨0, by omega, rfl⟩
  case round =>
    obtain ⟨k, hk, rfl⟩ := hrel
    by_cases hki : k < i
    · have hks : k < t.size := by omega
      have hkp := HP.out k hks hki
      go_wp2_with fail
      go_round
      case rel => exact ⟨k + 1, by omega, by go_num⟩
      case measure => simp [intOf]; omega
    · obtain rfl : k = i := by omega
      go_wp2_with fail
      refine (D1.out _).mono ?_
      rintro e' w' ⟨rfl, rfl⟩
      go_wp2_with fail
      refine (D2.out _).mono ?_
      rintro e' w' ⟨rfl, rfl⟩
      clear HP D1 D2 h1 hne hfst h2 h3 hpi hs1 hs2 hyne hyf hsl0
      go_wp2_with fail
      go_ret2
      exact ⟨rfl, rfl⟩

set_option maxRecDepth 100000 in
set_option maxHeartbeats 4000000 in
theorem fp12_has (s t x y : ByteArray) (i m e : Nat) (w : World) (hS : FpS1 s t) (hT : FpT t x y i) (hN : FpN2 y)
    (d1 : ∀ w, Calls Tryd.prog 33 #[.string x, .int .i64 16] w fun e' w' => e' = .returned (.tuple #[.int .i64 m, .bool true]) ∧ w = w')
    (d2 : ∀ w, Calls Tryd.prog 33 #[.string y, .int .i64 4] w fun e' w' => e' = .returned (.tuple #[.int .i64 e, .bool false]) ∧ w = w') :
    Calls Tryd.prog 18 #[.string s] w fun e w' => e = .returned (.tuple #[.int .u64 0, .bool false]) ∧ w = w' := by
  obtain ⟨h1, hne, h0, hfst, hsl0⟩ := hS
  obtain ⟨hmax, h2, h3, hi, hp, hpi, hs1, hs2⟩ := hT
  obtain ⟨hyne, hy0, hyf⟩ := hN
  have HP := Lib.hid hp
  have D1 := Lib.hid d1
  have D2 := Lib.hid d2
  clear hp d1 d2
  go_enter Tryd.func18, Tryd.ntmps18
  go_wp2_with fail
  go_loop [6] (fun vi => ∃ k : Nat, k ≤ i ∧ vi = .int .i64 k) (fun vi => i - (intOf vi).toNat)
  case atStart => exact ⟨0, by omega, rfl⟩
  case round =>
    obtain ⟨k, hk, rfl⟩ := hrel
    by_cases hki : k < i
    · have hks : k < t.size := by omega
      have hkp := HP.out k hks hki
      go_wp2_with fail
      go_round
      case rel => exact ⟨k + 1, by omega, by go_num⟩
      case measure => simp [intOf]; omega
    · obtain rfl : k = i := by omega
      go_wp2_with fail
      refine (D1.out _).mono ?_
      rintro e' w' ⟨rfl, rfl⟩
      go_wp2_with fail
      refine (D2.out _).mono ?_
      rintro e' w' ⟨rfl, rfl⟩
      clear HP D1 D2 h1 hne hfst h2 h3 hpi hs1 hs2 hyne hyf hsl0
      go_wp2_with fail
      go_ret2
      exact ⟨rfl, rfl⟩

set_option maxRecDepth 100000 in
set_option maxHeartbeats 4000000 in
theorem fp12_even (s t x y : ByteArray) (i m e : Nat) (w : World) (hS : FpS1 s t) (hT : FpT t x y i) (hN : FpN2 y)
    (d1 : ∀ w, Calls Tryd.prog 33 #[.string x, .int .i64 16] w fun e' w' => e' = .returned (.tuple #[.int .i64 m, .bool true]) ∧ w = w')
    (d2 : ∀ w, Calls Tryd.prog 33 #[.string y, .int .i64 4] w fun e' w' => e' = .returned (.tuple #[.int .i64 e, .bool true]) ∧ w = w') (hm : ((m : Int) % 2 == 0) = true) :
    Calls Tryd.prog 18 #[.string s] w fun e w' => e = .returned (.tuple #[.int .u64 0, .bool false]) ∧ w = w' := by
  obtain ⟨h1, hne, h0, hfst, hsl0⟩ := hS
  obtain ⟨hmax, h2, h3, hi, hp, hpi, hs1, hs2⟩ := hT
  obtain ⟨hyne, hy0, hyf⟩ := hN
  have HP := Lib.hid hp
  have D1 := Lib.hid d1
  have D2 := Lib.hid d2
  clear hp d1 d2
  go_enter Tryd.func18, Tryd.ntmps18
  go_wp2_with fail
  go_loop [6] (fun vi => ∃ k : Nat, k ≤ i ∧ vi = .int .i64 k) (fun vi => i - (intOf vi).toNat)
  case atStart => exact ⟨0, by omega, rfl⟩
  case round =>
    obtain ⟨k, hk, rfl⟩ := hrel
    by_cases hki : k < i
    · have hks : k < t.size := by omega
      have hkp := HP.out k hks hki
      go_wp2_with fail
      go_round
      case rel => exact ⟨k + 1, by omega, by go_num⟩
      case measure => simp [intOf]; omega
    · obtain rfl : k = i := by omega
      go_wp2_with fail
      refine (D1.out _).mono ?_
      rintro e' w' ⟨rfl, rfl⟩
      go_wp2_with fail
      refine (D2.out _).mono ?_
      rintro e' w' ⟨rfl, rfl⟩
      clear HP D1 D2 h1 hne hfst h2 h3 hpi hs1 hs2 hyne hyf hsl0
      go_wp2_with fail
      go_ret2
      exact ⟨rfl, rfl⟩

set_option maxRecDepth 100000 in
set_option maxHeartbeats 4000000 in
theorem fp12_big (s t x y : ByteArray) (i m e : Nat) (w : World) (hS : FpS1 s t) (hT : FpT t x y i) (hN : FpN2 y)
    (d1 : ∀ w, Calls Tryd.prog 33 #[.string x, .int .i64 16] w fun e' w' => e' = .returned (.tuple #[.int .i64 m, .bool true]) ∧ w = w')
    (d2 : ∀ w, Calls Tryd.prog 33 #[.string y, .int .i64 4] w fun e' w' => e' = .returned (.tuple #[.int .i64 e, .bool true]) ∧ w = w') (hm : ((m : Int) % 2 == 0) = false) (hm1 : decide ((9007199254740992 : Int) ≤ (m : Int)) = true) :
    Calls Tryd.prog 18 #[.string s] w fun e w' => e = .returned (.tuple #[.int .u64 0, .bool false]) ∧ w = w' := by
  obtain ⟨h1, hne, h0, hfst, hsl0⟩ := hS
  obtain ⟨hmax, h2, h3, hi, hp, hpi, hs1, hs2⟩ := hT
  obtain ⟨hyne, hy0, hyf⟩ := hN
  have HP := Lib.hid hp
  have D1 := Lib.hid d1
  have D2 := Lib.hid d2
  clear hp d1 d2
  go_enter Tryd.func18, Tryd.ntmps18
  go_wp2_with fail
  go_loop [6] (fun vi => ∃ k : Nat, k ≤ i ∧ vi = .int .i64 k) (fun vi => i - (intOf vi).toNat)
  case atStart => exact ⟨0, by omega, rfl⟩
  case round =>
    obtain ⟨k, hk, rfl⟩ := hrel
    by_cases hki : k < i
    · have hks : k < t.size := by omega
      have hkp := HP.out k hks hki
      go_wp2_with fail
      go_round
      case rel => exact ⟨k + 1, by omega, by go_num⟩
      case measure => simp [intOf]; omega
    · obtain rfl : k = i := by omega
      go_wp2_with fail
      refine (D1.out _).mono ?_
      rintro e' w' ⟨rfl, rfl⟩
      go_wp2_with fail
      refine (D2.out _).mono ?_
      rintro e' w' ⟨rfl, rfl⟩
      clear HP D1 D2 h1 hne hfst h2 h3 hpi hs1 hs2 hyne hyf hsl0
      go_wp2_with fail
      go_ret2
      exact ⟨rfl, rfl⟩

set_option maxRecDepth 100000 in
set_option maxHeartbeats 4000000 in
theorem fp12_high (s t x y : ByteArray) (i m e L : Nat) (w : World) (hS : FpS1 s t) (hT : FpT t x y i) (hN : FpN2 y)
    (d1 : ∀ w, Calls Tryd.prog 33 #[.string x, .int .i64 16] w fun e' w' => e' = .returned (.tuple #[.int .i64 m, .bool true]) ∧ w = w')
    (d2 : ∀ w, Calls Tryd.prog 33 #[.string y, .int .i64 4] w fun e' w' => e' = .returned (.tuple #[.int .i64 e, .bool true]) ∧ w = w') (hm : ((m : Int) % 2 == 0) = false) (hm1 : decide ((9007199254740992 : Int) ≤ (m : Int)) = false) (he : e < 10000) (hmb : m < 9007199254740992) (hL1 : 1 ≤ L) (hL2 : L ≤ 53) (hLp : ∀ j, j < L → 0 < m / 2 ^ j) (hL0 : m / 2 ^ L = 0) (hhigh : 1023 < (e : Int) + L - 1) :
    Calls Tryd.prog 18 #[.string s] w fun e w' => e = .returned (.tuple #[.int .u64 0, .bool false]) ∧ w = w' := by
  obtain ⟨h1, hne, h0, hfst, hsl0⟩ := hS
  obtain ⟨hmax, h2, h3, hi, hp, hpi, hs1, hs2⟩ := hT
  obtain ⟨hyne, hy0, hyf⟩ := hN
  have HP := Lib.hid hp
  have D1 := Lib.hid d1
  have D2 := Lib.hid d2
  clear hp d1 d2
  have HLp := Lib.hid hLp
  have HL0 := Lib.hid hL0
  have HMB := Lib.hid hmb
  clear hLp hL0 hmb
  go_enter Tryd.func18, Tryd.ntmps18
  go_wp2_with fail
  go_loop [6] (fun vi => ∃ k : Nat, k ≤ i ∧ vi = .int .i64 k) (fun vi => i - (intOf vi).toNat)
  case atStart => exact ⟨0, by omega, rfl⟩
  case round =>
    obtain ⟨k, hk, rfl⟩ := hrel
    by_cases hki : k < i
    · have hks : k < t.size := by omega
      have hkp := HP.out k hks hki
      go_wp2_with fail
      go_round
      case rel => exact ⟨k + 1, by omega, by go_num⟩
      case measure => simp [intOf]; omega
    · obtain rfl : k = i := by omega
      go_wp2_with fail
      refine (D1.out _).mono ?_
      rintro e' w' ⟨rfl, rfl⟩
      go_wp2_with fail
      refine (D2.out _).mono ?_
      rintro e' w' ⟨rfl, rfl⟩
      clear HP D1 D2 h1 hne hfst h2 h3 hpi hs1 hs2 hyne hyf hsl0
      go_wp2_with fail
      go_loop [13, 14] (fun vl vk => ∃ j kk : Nat, vl = .int .i64 j ∧ vk = .int .i64 kk ∧ j ≤ L ∧ Hid (kk = m / 2 ^ j)) (fun vl _ => L - (intOf vl).toNat)
      case atStart => exact ⟨0, m, rfl, rfl, by omega, Lib.hid (by simp)⟩
      case round =>
        obtain ⟨j, kk, rfl, rfl, hj, hkk⟩ := hrel
        have hkb : kk < 9007199254740992 := by rw [hkk.out]; exact Nat.lt_of_le_of_lt (Nat.div_le_self _ _) HMB.out
        by_cases hjL : j < L
        · have hpos : 0 < kk := by rw [hkk.out]; exact HLp.out j hjL
          have HN : Hid (kk / 2 = m / 2 ^ (j + 1)) := Lib.hid (by rw [hkk.out, Nat.pow_succ, Nat.div_div_eq_div_mul])
          go_wp2_with fail
          go_round
          case rel => exact ⟨j + 1, kk / 2, by go_num, by go_num, by omega, HN⟩
          case measure => simp [intOf]; omega
        · obtain rfl : j = L := by omega
          have hz0 : kk = 0 := by rw [hkk.out]; exact HL0.out
          subst hz0
          clear hkk
          go_wp2_with fail
          
          go_ret2
          exact ⟨rfl, rfl⟩

set_option maxRecDepth 100000 in
set_option maxHeartbeats 4000000 in
theorem fp12_norm (s t x y : ByteArray) (i m e L : Nat) (Z H Y A : Nat) (w : World) (hS : FpS1 s t) (hT : FpT t x y i) (hN : FpN2 y)
    (d1 : ∀ w, Calls Tryd.prog 33 #[.string x, .int .i64 16] w fun e' w' => e' = .returned (.tuple #[.int .i64 m, .bool true]) ∧ w = w')
    (d2 : ∀ w, Calls Tryd.prog 33 #[.string y, .int .i64 4] w fun e' w' => e' = .returned (.tuple #[.int .i64 e, .bool true]) ∧ w = w') (hm : ((m : Int) % 2 == 0) = false) (hm1 : decide ((9007199254740992 : Int) ≤ (m : Int)) = false) (he : e < 10000) (hmb : m < 9007199254740992) (hL1 : 1 ≤ L) (hL2 : L ≤ 53) (hLp : ∀ j, j < L → 0 < m / 2 ^ j) (hL0 : m / 2 ^ L = 0) (hr1 : ¬ 1023 < (e : Int) + L - 1) (w1 : IntKind.u64.wrap (((e : Int) + L - 1 + 1023) * 4503599627370496) = (Z : Int)) (w3 : bits BinOp.and IntKind.u64 (IntKind.u64.wrap (IntKind.u64.wrap (m : Int) * 2 ^ (53 - L))) 4503599627370495 = (H : Int)) (w4 : bits BinOp.or IntKind.u64 9223372036854775808 (Z : Int) = (Y : Int)) (w5 : bits BinOp.or IntKind.u64 (Y : Int) (H : Int) = (A : Int)) :
    Calls Tryd.prog 18 #[.string s] w fun e w' => e = .returned (.tuple #[.int .u64 A, .bool true]) ∧ w = w' := by
  obtain ⟨h1, hne, h0, hfst, hsl0⟩ := hS
  obtain ⟨hmax, h2, h3, hi, hp, hpi, hs1, hs2⟩ := hT
  obtain ⟨hyne, hy0, hyf⟩ := hN
  have HP := Lib.hid hp
  have D1 := Lib.hid d1
  have D2 := Lib.hid d2
  clear hp d1 d2
  have HLp := Lib.hid hLp
  have HL0 := Lib.hid hL0
  have HMB := Lib.hid hmb
  clear hLp hL0 hmb
  go_enter Tryd.func18, Tryd.ntmps18
  go_wp2_with fail
  go_loop [6] (fun vi => ∃ k : Nat, k ≤ i ∧ vi = .int .i64 k) (fun vi => i - (intOf vi).toNat)
  case atStart => exact ⟨0, by omega, rfl⟩
  case round =>
    obtain ⟨k, hk, rfl⟩ := hrel
    by_cases hki : k < i
    · have hks : k < t.size := by omega
      have hkp := HP.out k hks hki
      go_wp2_with fail
      go_round
      case rel => exact ⟨k + 1, by omega, by go_num⟩
      case measure => simp [intOf]; omega
    · obtain rfl : k = i := by omega
      go_wp2_with fail
      refine (D1.out _).mono ?_
      rintro e' w' ⟨rfl, rfl⟩
      go_wp2_with fail
      refine (D2.out _).mono ?_
      rintro e' w' ⟨rfl, rfl⟩
      clear HP D1 D2 h1 hne hfst h2 h3 hpi hs1 hs2 hyne hyf hsl0
      go_wp2_with fail
      go_loop [13, 14] (fun vl vk => ∃ j kk : Nat, vl = .int .i64 j ∧ vk = .int .i64 kk ∧ j ≤ L ∧ Hid (kk = m / 2 ^ j)) (fun vl _ => L - (intOf vl).toNat)
      case atStart => exact ⟨0, m, rfl, rfl, by omega, Lib.hid (by simp)⟩
      case round =>
        obtain ⟨j, kk, rfl, rfl, hj, hkk⟩ := hrel
        have hkb : kk < 9007199254740992 := by rw [hkk.out]; exact Nat.lt_of_le_of_lt (Nat.div_le_self _ _) HMB.out
        by_cases hjL : j < L
        · have hpos : 0 < kk := by rw [hkk.out]; exact HLp.out j hjL
          have HN : Hid (kk / 2 = m / 2 ^ (j + 1)) := Lib.hid (by rw [hkk.out, Nat.pow_succ, Nat.div_div_eq_div_mul])
          go_wp2_with fail
          go_round
          case rel => exact ⟨j + 1, kk / 2, by go_num, by go_num, by omega, HN⟩
          case measure => simp [intOf]; omega
        · obtain rfl : j = L := by omega
          have hz0 : kk = 0 := by rw [hkk.out]; exact HL0.out
          subst hz0
          clear hkk
          go_wp2_with fail
          
          go_ret2
          exact ⟨rfl, rfl⟩

set_option maxRecDepth 100000 in
set_option maxHeartbeats 4000000 in
theorem fp13_is (s t x y : ByteArray) (i m e : Nat) (b2 : Bool) (w : World) (hS : FpS1 s t) (hT : FpT t x y i) (hN : y.toList.isEmpty = true)
    (d1 : ∀ w, Calls Tryd.prog 33 #[.string x, .int .i64 16] w fun e' w' => e' = .returned (.tuple #[.int .i64 m, .bool false]) ∧ w = w')
    (d2 : ∀ w, Calls Tryd.prog 33 #[.string y, .int .i64 4] w fun e' w' => e' = .returned (.tuple #[.int .i64 e, .bool b2]) ∧ w = w') :
    Calls Tryd.prog 18 #[.string s] w fun e w' => e = .returned (.tuple #[.int .u64 0, .bool false]) ∧ w = w' := by
  obtain ⟨h1, hne, h0, hfst, hsl0⟩ := hS
  obtain ⟨hmax, h2, h3, hi, hp, hpi, hs1, hs2⟩ := hT
  have hyne := hN
  clear hN
  have HP := Lib.hid hp
  have D1 := Lib.hid d1
  have D2 := Lib.hid d2
  clear hp d1 d2
  go_enter Tryd.func18, Tryd.ntmps18
  go_wp2_with fail
  go_loop [6] (fun vi => ∃ k : Nat, k ≤ i ∧ vi = .int .i64 k) (fun vi => i - (intOf vi).toNat)
  case atStart => exact ⟨0, by omega, rfl⟩
  case round =>
    obtain ⟨k, hk, rfl⟩ := hrel
    by_cases hki : k < i
    · have hks : k < t.size := by omega
      have hkp := HP.out k hks hki
      go_wp2_with fail
      go_round
      case rel => exact ⟨k + 1, by omega, by go_num⟩
      case measure => simp [intOf]; omega
    · obtain rfl : k = i := by omega
      go_wp2_with fail
      refine (D1.out _).mono ?_
      rintro e' w' ⟨rfl, rfl⟩
      go_wp2_with fail
      refine (D2.out _).mono ?_
      rintro e' w' ⟨rfl, rfl⟩
      clear HP D1 D2 h1 hne hfst h2 h3 hpi hs1 hs2 hyne hsl0
      go_wp2_with fail
      go_ret2
      exact ⟨rfl, rfl⟩

set_option maxRecDepth 100000 in
set_option maxHeartbeats 4000000 in
theorem fp13_has (s t x y : ByteArray) (i m e : Nat) (w : World) (hS : FpS1 s t) (hT : FpT t x y i) (hN : y.toList.isEmpty = true)
    (d1 : ∀ w, Calls Tryd.prog 33 #[.string x, .int .i64 16] w fun e' w' => e' = .returned (.tuple #[.int .i64 m, .bool true]) ∧ w = w')
    (d2 : ∀ w, Calls Tryd.prog 33 #[.string y, .int .i64 4] w fun e' w' => e' = .returned (.tuple #[.int .i64 e, .bool false]) ∧ w = w') :
    Calls Tryd.prog 18 #[.string s] w fun e w' => e = .returned (.tuple #[.int .u64 0, .bool false]) ∧ w = w' := by
  obtain ⟨h1, hne, h0, hfst, hsl0⟩ := hS
  obtain ⟨hmax, h2, h3, hi, hp, hpi, hs1, hs2⟩ := hT
  have hyne := hN
  clear hN
  have HP := Lib.hid hp
  have D1 := Lib.hid d1
  have D2 := Lib.hid d2
  clear hp d1 d2
  go_enter Tryd.func18, Tryd.ntmps18
  go_wp2_with fail
  go_loop [6] (fun vi => ∃ k : Nat, k ≤ i ∧ vi = .int .i64 k) (fun vi => i - (intOf vi).toNat)
  case atStart => exact ⟨0, by omega, rfl⟩
  case round =>
    obtain ⟨k, hk, rfl⟩ := hrel
    by_cases hki : k < i
    · have hks : k < t.size := by omega
      have hkp := HP.out k hks hki
      go_wp2_with fail
      go_round
      case rel => exact ⟨k + 1, by omega, by go_num⟩
      case measure => simp [intOf]; omega
    · obtain rfl : k = i := by omega
      go_wp2_with fail
      refine (D1.out _).mono ?_
      rintro e' w' ⟨rfl, rfl⟩
      go_wp2_with fail
      refine (D2.out _).mono ?_
      rintro e' w' ⟨rfl, rfl⟩
      clear HP D1 D2 h1 hne hfst h2 h3 hpi hs1 hs2 hyne hsl0
      go_wp2_with fail
      go_ret2
      exact ⟨rfl, rfl⟩


end Go.Proofs.YtpdiajagdehfkaaDoor
