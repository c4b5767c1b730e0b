/- gristmillref1.FloParse: the ways of its three words, and of a text without a p. Conditions: as each says. -/
import Derived.Test.YtpdiajagdehfkaaDoorR8
namespace Go.Proofs.YtpdiajagdehfkaaDoor
open Go.RowKit Ieee

set_option maxRecDepth 100000 in
theorem fp_nan (s : ByteArray) (w : World) (h1 : (s.toList == [110, 97, 110]) = true) :
    Calls Tryd.prog 18 #[.string s] w fun e w' => e = .returned (.tuple #[.int .u64 9221120237041090560, .bool true]) ∧ w = w' := by
  go_enter Tryd.func18, Tryd.ntmps18
  go_wp2_with fail
  go_ret2
  exact ⟨rfl, rfl⟩
set_option maxRecDepth 100000 in
theorem fp0_nop (s : ByteArray) (w : World) (h1 : (s.toList == [110, 97, 110]) = false) (hne : s.toList.isEmpty = true) (h2 : (s.toList == [105, 110, 102]) = false) (h3 : (s.toList == [48, 112, 48]) = false) (h0 : s.size = 0) :
    Calls Tryd.prog 18 #[.string s] w fun e w' => e = .returned (.tuple #[.int .u64 0, .bool false]) ∧ w = w' := by
  go_enter Tryd.func18, Tryd.ntmps18
  go_wp2_with fail
  go_loop [6] (fun vi => vi = .int .i64 0) (fun _ => 0)
  case atStart => rfl
  case round =>
    subst hrel
    go_wp2_with fail
    go_ret2
    exact ⟨rfl, rfl⟩

set_option maxRecDepth 100000 in
theorem fp1_inf (s t : ByteArray) (w : World) (hS : FpS1 s t) (h2 : (t.toList == [105, 110, 102]) = true) :
    Calls Tryd.prog 18 #[.string s] w fun e w' => e = .returned (.tuple #[.int .u64 18442240474082181120, .bool true]) ∧ w = w' := by
  obtain ⟨h1, hne, h0, hfst, hsl0⟩ := hS
  go_enter Tryd.func18, Tryd.ntmps18
  go_wp2_with fail
  go_ret2
  exact ⟨rfl, rfl⟩
set_option maxRecDepth 100000 in
theorem fp1_zero (s t : ByteArray) (w : World) (hS : FpS1 s t) (h2 : (t.toList == [105, 110, 102]) = false) (h3 : (t.toList == [48, 112, 48]) = true) :
    Calls Tryd.prog 18 #[.string s] w fun e w' => e = .returned (.tuple #[.int .u64 9223372036854775808, .bool true]) ∧ w = w' := by
  obtain ⟨h1, hne, h0, hfst, hsl0⟩ := hS
  go_enter Tryd.func18, Tryd.ntmps18
  go_wp2_with fail
  go_ret2
  exact ⟨rfl, rfl⟩
set_option maxRecDepth 100000 in
theorem fp1_nop (s t : ByteArray) (w : World) (hS : FpS1 s t) (hmax : t.size ≤ 60) (h2 : (t.toList == [105, 110, 102]) = false) (h3 : (t.toList == [48, 112, 48]) = false)
    (hp : ∀ k (hk : k < t.size), ((t[k].toNat : Int) != 112) = true) :
    Calls Tryd.prog 18 #[.string s] w fun e w' => e = .returned (.tuple #[.int .u64 0, .bool false]) ∧ w = w' := by
  obtain ⟨h1, hne, h0, hfst, hsl0⟩ := hS
  have HP := Lib.hid hp
  clear hp
  go_enter Tryd.func18, Tryd.ntmps18
  go_wp2_with fail
  go_loop [6] (fun vi => ∃ k : Nat, k ≤ t.size ∧ vi = .int .i64 k) (fun vi => t.size - (intOf vi).toNat)
  case atStart => exact ⟨0, by omega, rfl⟩
  case round =>
    obtain ⟨k, hk, rfl⟩ := hrel
    by_cases hki : k < t.size
    · have hkp := HP.out k hki
      go_wp2_with fail
      go_round
      case rel => exact ⟨k + 1, by omega, by go_num⟩
      case measure => simp [intOf]; omega
    · obtain rfl : k = t.size := by omega
      clear h1 hne hfst h2 h3 hsl0
      go_wp2_with fail
      go_ret2
      exact ⟨rfl, rfl⟩

set_option maxRecDepth 100000 in
theorem fp2_inf (s : ByteArray) (w : World) (hS : FpS2 s) (h2 : (s.toList == [105, 110, 102]) = true) :
    Calls Tryd.prog 18 #[.string s] w fun e w' => e = .returned (.tuple #[.int .u64 9218868437227405312, .bool true]) ∧ w = w' := by
  obtain ⟨h1, hne, h0, hfst⟩ := hS
  go_enter Tryd.func18, Tryd.ntmps18
  go_wp2_with fail
  go_ret2
  exact ⟨rfl, rfl⟩
set_option maxRecDepth 100000 in
theorem fp2_zero (s : ByteArray) (w : World) (hS : FpS2 s) (h2 : (s.toList == [105, 110, 102]) = false) (h3 : (s.toList == [48, 112, 48]) = true) :
    Calls Tryd.prog 18 #[.string s] w fun e w' => e = .returned (.tuple #[.int .u64 0, .bool true]) ∧ w = w' := by
  obtain ⟨h1, hne, h0, hfst⟩ := hS
  go_enter Tryd.func18, Tryd.ntmps18
  go_wp2_with fail
  go_ret2
  exact ⟨rfl, rfl⟩
set_option maxRecDepth 100000 in
theorem fp2_nop (s : ByteArray) (w : World) (hS : FpS2 s) (hmax : s.size ≤ 60) (h2 : (s.toList == [105, 110, 102]) = false) (h3 : (s.toList == [48, 112, 48]) = false)
    (hp : ∀ k (hk : k < s.size), ((s[k].toNat : Int) != 112) = true) :
    Calls Tryd.prog 18 #[.string s] w fun e w' => e = .returned (.tuple #[.int .u64 0, .bool false]) ∧ w = w' := by
  obtain ⟨h1, hne, h0, hfst⟩ := hS
  have HP := Lib.hid hp
  clear hp
  go_enter Tryd.func18, Tryd.ntmps18
  go_wp2_with fail
  go_loop [6] (fun vi => ∃ k : Nat, k ≤ s.size ∧ vi = .int .i64 k) (fun vi => s.size - (intOf vi).toNat)
  case atStart => exact ⟨0, by omega, rfl⟩
  case round =>
    obtain ⟨k, hk, rfl⟩ := hrel
    by_cases hki : k < s.size
    · have hkp := HP.out k hki
      go_wp2_with fail
      go_round
      case rel => exact ⟨k + 1, by omega, by go_num⟩
      case measure => simp [intOf]; omega
    · obtain rfl : k = s.size := by omega
      clear h1 hne hfst h2 h3
      go_wp2_with fail
      go_ret2
      exact ⟨rfl, rfl⟩

end Go.Proofs.YtpdiajagdehfkaaDoor
