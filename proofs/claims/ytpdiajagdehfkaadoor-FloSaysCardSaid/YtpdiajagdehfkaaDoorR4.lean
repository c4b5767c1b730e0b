/- The document's own whole number of a float is the program's. Conditions: 64 bits. -/
import Derived.Test.YtpdiajagdehfkaaDoorR1
import Derived.Test.YtpdiajagdehfkaaDoorFm
namespace Go.Proofs.YtpdiajagdehfkaaDoor
open Go.RowKit Ieee

set_option maxRecDepth 100000 in
set_option maxHeartbeats 1000000 in
theorem rti_less (a E F m : Nat) (sg : Bool) (w : World) (hs : ((a : Int) / 9223372036854775808 == 1) = sg) (h2 : bits BinOp.and IntKind.u64 ((a : Int) / 4503599627370496) 2047 = (E : Int)) (h1 : bits BinOp.and IntKind.u64 (a : Int) 4503599627370495 = (F : Int))
    (h3 : bits BinOp.or IntKind.u64 (F : Int) 4503599627370496 = (m : Int)) (hE : E < 1023) :
    Calls Tryd.prog 16 #[.int .u64 a] w fun e w' => e = .returned (.tuple #[.int .i64 0, .bool true]) ∧ w = w' := by
  go_enter Tryd.func16, Tryd.ntmps16
  go_wp2_with fail
  go_ret2
  exact ⟨rfl, rfl⟩

set_option maxRecDepth 100000 in
set_option maxHeartbeats 1000000 in
theorem rti_least (a E F m : Nat) (sg : Bool) (w : World) (hs : ((a : Int) / 9223372036854775808 == 1) = sg) (h2 : bits BinOp.and IntKind.u64 ((a : Int) / 4503599627370496) 2047 = (E : Int)) (h1 : bits BinOp.and IntKind.u64 (a : Int) 4503599627370495 = (F : Int))
    (h3 : bits BinOp.or IntKind.u64 (F : Int) 4503599627370496 = (m : Int)) (hE2 : 1086 ≤ E) (hE3 : E < 2048) (ha : ((a : Int) == 14114281232179134464) = true) :
    Calls Tryd.prog 16 #[.int .u64 a] w fun e w' => e = .returned (.tuple #[.int .i64 (-9223372036854775808), .bool true]) ∧ w = w' := by
  go_enter Tryd.func16, Tryd.ntmps16
  go_wp2_with fail
  go_ret2
  exact ⟨rfl, rfl⟩

set_option maxRecDepth 100000 in
set_option maxHeartbeats 1000000 in
theorem rti_great (a E F m : Nat) (sg : Bool) (w : World) (hs : ((a : Int) / 9223372036854775808 == 1) = sg) (h2 : bits BinOp.and IntKind.u64 ((a : Int) / 4503599627370496) 2047 = (E : Int)) (h1 : bits BinOp.and IntKind.u64 (a : Int) 4503599627370495 = (F : Int))
    (h3 : bits BinOp.or IntKind.u64 (F : Int) 4503599627370496 = (m : Int)) (hE2 : 1086 ≤ E) (hE3 : E < 2048) (ha : ((a : Int) == 14114281232179134464) = false) :
    Calls Tryd.prog 16 #[.int .u64 a] w fun e w' => e = .returned (.tuple #[.int .i64 0, .bool false]) ∧ w = w' := by
  go_enter Tryd.func16, Tryd.ntmps16
  go_wp2_with fail
  go_ret2
  exact ⟨rfl, rfl⟩

set_option maxRecDepth 100000 in
set_option maxHeartbeats 1000000 in
theorem rti_left (a E F m : Nat) (v : Int) (sg : Bool) (w : World) (hs : ((a : Int) / 9223372036854775808 == 1) = sg) (h2 : bits BinOp.and IntKind.u64 ((a : Int) / 4503599627370496) 2047 = (E : Int)) (h1 : bits BinOp.and IntKind.u64 (a : Int) 4503599627370495 = (F : Int))
    (h3 : bits BinOp.or IntKind.u64 (F : Int) 4503599627370496 = (m : Int)) (hE : 1075 ≤ E) (hE2 : ¬ 1086 ≤ E)
    (hv : (if sg then wrap64 (-wrap64 (IntKind.u64.wrap ((m : Int) * 2 ^ (E - 1023 - 52)))) else wrap64 (IntKind.u64.wrap ((m : Int) * 2 ^ (E - 1023 - 52)))) = v) :
    Calls Tryd.prog 16 #[.int .u64 a] w fun e w' => e = .returned (.tuple #[.int .i64 v, .bool true]) ∧ w = w' := by
  cases sg
  all_goals
    simp only [Bool.false_eq_true, if_false, if_true] at hv
    have HV := Lib.hid hv
    clear hv
    go_enter Tryd.func16, Tryd.ntmps16
    go_wp2_with fail
    go_ret2
    refine ⟨?_, rfl⟩
    rw [← HV.out]
    rfl

set_option maxRecDepth 100000 in
set_option maxHeartbeats 1000000 in
theorem rti_right (a E F m : Nat) (v : Int) (sg : Bool) (w : World) (hs : ((a : Int) / 9223372036854775808 == 1) = sg) (h2 : bits BinOp.and IntKind.u64 ((a : Int) / 4503599627370496) 2047 = (E : Int)) (h1 : bits BinOp.and IntKind.u64 (a : Int) 4503599627370495 = (F : Int))
    (h3 : bits BinOp.or IntKind.u64 (F : Int) 4503599627370496 = (m : Int)) (hE : 1023 ≤ E) (hE2 : E < 1075)
    (hv : (if sg then wrap64 (-wrap64 ((m : Int) / 2 ^ (-((E : Int) - 1023 - 52)).toNat)) else wrap64 ((m : Int) / 2 ^ (-((E : Int) - 1023 - 52)).toNat)) = v) :
    Calls Tryd.prog 16 #[.int .u64 a] w fun e w' => e = .returned (.tuple #[.int .i64 v, .bool true]) ∧ w = w' := by
  cases sg
  all_goals
    simp only [Bool.false_eq_true, if_false, if_true] at hv
    have HV := Lib.hid hv
    clear hv
    go_enter Tryd.func16, Tryd.ntmps16
    go_wp2_with fail
    go_ret2
    refine ⟨?_, rfl⟩
    rw [← HV.out]
    rfl

end Go.Proofs.YtpdiajagdehfkaaDoor
