/- gristmillref1.FloParse: its ways, put together over the sign. Conditions: as each says. -/
import Derived.Test.YtpdiajagdehfkaaDoorR9
import Derived.Test.YtpdiajagdehfkaaDoorR10
import Derived.Test.YtpdiajagdehfkaaDoorR11
namespace Go.Proofs.YtpdiajagdehfkaaDoor
open Go.RowKit Ieee

/-- A text and what is behind its sign. -/
def FpSg (s t : ByteArray) : Bool → Prop
  | true => FpS1 s t
  | false => t = s ∧ FpS2 s

theorem fpx1_is (s t x y z : ByteArray) (i m e : Nat) (b2 : Bool) (w : World) (sg : Bool) (hS : FpSg s t sg) (hT : FpT t x y i) (hN : FpN1 y z) (d1 : ∀ w, Calls Tryd.prog 33 #[.string x, .int .i64 16] w fun e' w' => e' = .returned (.tuple #[.int .i64 m, .bool false]) ∧ w = w') (d2 : ∀ w, Calls Tryd.prog 33 #[.string z, .int .i64 4] w fun e' w' => e' = .returned (.tuple #[.int .i64 e, .bool b2]) ∧ w = w') :
    Calls Tryd.prog 18 #[.string s] w fun e w' => e = .returned (.tuple #[.int .u64 0, .bool false]) ∧ w = w' := by
  cases sg
  · obtain ⟨rfl, hS⟩ := hS
    exact fp21_is t x y z i m e b2 w hS hT hN d1 d2
  · exact fp11_is s t x y z i m e b2 w hS hT hN d1 d2

theorem fpx1_has (s t x y z : ByteArray) (i m e : Nat) (w : World) (sg : Bool) (hS : FpSg s t sg) (hT : FpT t x y i) (hN : FpN1 y z) (d1 : ∀ w, Calls Tryd.prog 33 #[.string x, .int .i64 16] w fun e' w' => e' = .returned (.tuple #[.int .i64 m, .bool true]) ∧ w = w') (d2 : ∀ w, Calls Tryd.prog 33 #[.string z, .int .i64 4] w fun e' w' => e' = .returned (.tuple #[.int .i64 e, .bool false]) ∧ w = w') :
    Calls Tryd.prog 18 #[.string s] w fun e w' => e = .returned (.tuple #[.int .u64 0, .bool false]) ∧ w = w' := by
  cases sg
  · obtain ⟨rfl, hS⟩ := hS
    exact fp21_has t x y z i m e w hS hT hN d1 d2
  · exact fp11_has s t x y z i m e w hS hT hN d1 d2

theorem fpx1_even (s t x y z : ByteArray) (i m e : Nat) (w : World) (sg : Bool) (hS : FpSg s t sg) (hT : FpT t x y i) (hN : FpN1 y z) (d1 : ∀ w, Calls Tryd.prog 33 #[.string x, .int .i64 16] w fun e' w' => e' = .returned (.tuple #[.int .i64 m, .bool true]) ∧ w = w') (d2 : ∀ w, Calls Tryd.prog 33 #[.string z, .int .i64 4] w fun e' w' => e' = .returned (.tuple #[.int .i64 e, .bool true]) ∧ w = w') (hm : ((m : Int) % 2 == 0) = true) :
    Calls Tryd.prog 18 #[.string s] w fun e w' => e = .returned (.tuple #[.int .u64 0, .bool false]) ∧ w = w' := by
  cases sg
  · obtain ⟨rfl, hS⟩ := hS
    exact fp21_even t x y z i m e w hS hT hN d1 d2 hm
  · exact fp11_even s t x y z i m e w hS hT hN d1 d2 hm

theorem fpx1_big (s t x y z : ByteArray) (i m e : Nat) (w : World) (sg : Bool) (hS : FpSg s t sg) (hT : FpT t x y i) (hN : FpN1 y z) (d1 : ∀ w, Calls Tryd.prog 33 #[.string x, .int .i64 16] w fun e' w' => e' = .returned (.tuple #[.int .i64 m, .bool true]) ∧ w = w') (d2 : ∀ w, Calls Tryd.prog 33 #[.string z, .int .i64 4] w fun e' w' => e' = .returned (.tuple #[.int .i64 e, .bool true]) ∧ w = w') (hm : ((m : Int) % 2 == 0) = false) (hm1 : decide ((9007199254740992 : Int) ≤ (m : Int)) = true) :
    Calls Tryd.prog 18 #[.string s] w fun e w' => e = .returned (.tuple #[.int .u64 0, .bool false]) ∧ w = w' := by
  cases sg
  · obtain ⟨rfl, hS⟩ := hS
    exact fp21_big t x y z i m e w hS hT hN d1 d2 hm hm1
  · exact fp11_big s t x y z i m e w hS hT hN d1 d2 hm hm1

theorem fpx1_negz (s t x y z : ByteArray) (i m e : Nat) (w : World) (sg : Bool) (hS : FpSg s t sg) (hT : FpT t x y i) (hN : FpN1 y z) (d1 : ∀ w, Calls Tryd.prog 33 #[.string x, .int .i64 16] w fun e' w' => e' = .returned (.tuple #[.int .i64 m, .bool true]) ∧ w = w') (d2 : ∀ w, Calls Tryd.prog 33 #[.string z, .int .i64 4] w fun e' w' => e' = .returned (.tuple #[.int .i64 e, .bool true]) ∧ w = w') (hm : ((m : Int) % 2 == 0) = false) (hm1 : decide ((9007199254740992 : Int) ≤ (m : Int)) = false) (hez : ((e : Int) == 0) = true) :
    Calls Tryd.prog 18 #[.string s] w fun e w' => e = .returned (.tuple #[.int .u64 0, .bool false]) ∧ w = w' := by
  cases sg
  · obtain ⟨rfl, hS⟩ := hS
    exact fp21_negz t x y z i m e w hS hT hN d1 d2 hm hm1 hez
  · exact fp11_negz s t x y z i m e w hS hT hN d1 d2 hm hm1 hez

theorem fpx1_low (s t x y z : ByteArray) (i m e L : Nat) (w : World) (sg : Bool) (hS : FpSg s t sg) (hT : FpT t x y i) (hN : FpN1 y z) (d1 : ∀ w, Calls Tryd.prog 33 #[.string x, .int .i64 16] w fun e' w' => e' = .returned (.tuple #[.int .i64 m, .bool true]) ∧ w = w') (d2 : ∀ w, Calls Tryd.prog 33 #[.string z, .int .i64 4] w fun e' w' => e' = .returned (.tuple #[.int .i64 e, .bool true]) ∧ w = w') (hm : ((m : Int) % 2 == 0) = false) (hm1 : decide ((9007199254740992 : Int) ≤ (m : Int)) = false) (hez : ((e : Int) == 0) = false) (he : e < 10000) (hmb : m < 9007199254740992) (hL1 : 1 ≤ L) (hL2 : L ≤ 53) (hLp : ∀ j, j < L → 0 < m / 2 ^ j) (hL0 : m / 2 ^ L = 0) (hlow : -(e : Int) < -1074) :
    Calls Tryd.prog 18 #[.string s] w fun e w' => e = .returned (.tuple #[.int .u64 0, .bool false]) ∧ w = w' := by
  cases sg
  · obtain ⟨rfl, hS⟩ := hS
    exact fp21_low t x y z i m e L w hS hT hN d1 d2 hm hm1 hez he hmb hL1 hL2 hLp hL0 hlow
  · exact fp11_low s t x y z i m e L w hS hT hN d1 d2 hm hm1 hez he hmb hL1 hL2 hLp hL0 hlow

theorem fpx1_norm (s t x y z : ByteArray) (i m e L : Nat) (Z H Y A : Nat) (w : World) (sg : Bool) (hS : FpSg s t sg) (hT : FpT t x y i) (hN : FpN1 y z) (d1 : ∀ w, Calls Tryd.prog 33 #[.string x, .int .i64 16] w fun e' w' => e' = .returned (.tuple #[.int .i64 m, .bool true]) ∧ w = w') (d2 : ∀ w, Calls Tryd.prog 33 #[.string z, .int .i64 4] w fun e' w' => e' = .returned (.tuple #[.int .i64 e, .bool true]) ∧ w = w') (hm : ((m : Int) % 2 == 0) = false) (hm1 : decide ((9007199254740992 : Int) ≤ (m : Int)) = false) (hez : ((e : Int) == 0) = false) (he : e < 10000) (hmb : m < 9007199254740992) (hL1 : 1 ≤ L) (hL2 : L ≤ 53) (hLp : ∀ j, j < L → 0 < m / 2 ^ j) (hL0 : m / 2 ^ L = 0) (hr1 : ¬ 1023 < -(e : Int) + L - 1) (hr2 : ¬ -(e : Int) < -1074) (hr3 : -1022 ≤ -(e : Int) + L - 1) (w1 : IntKind.u64.wrap ((-(e : Int) + L - 1 + 1023) * 4503599627370496) = (Z : Int)) (w3 : bits BinOp.and IntKind.u64 (IntKind.u64.wrap (IntKind.u64.wrap (m : Int) * 2 ^ (53 - L))) 4503599627370495 = (H : Int)) (w4 : bits BinOp.or IntKind.u64 (sgW sg : Int) (Z : Int) = (Y : Int)) (w5 : bits BinOp.or IntKind.u64 (Y : Int) (H : Int) = (A : Int)) :
    Calls Tryd.prog 18 #[.string s] w fun e w' => e = .returned (.tuple #[.int .u64 A, .bool true]) ∧ w = w' := by
  cases sg
  · obtain ⟨rfl, hS⟩ := hS
    exact fp21_norm t x y z i m e L Z H Y A w hS hT hN d1 d2 hm hm1 hez he hmb hL1 hL2 hLp hL0 hr1 hr2 hr3 w1 w3 w4 w5
  · exact fp11_norm s t x y z i m e L Z H Y A w hS hT hN d1 d2 hm hm1 hez he hmb hL1 hL2 hLp hL0 hr1 hr2 hr3 w1 w3 w4 w5

theorem fpx1_sub (s t x y z : ByteArray) (i m e L : Nat) (G A : Nat) (w : World) (sg : Bool) (hS : FpSg s t sg) (hT : FpT t x y i) (hN : FpN1 y z) (d1 : ∀ w, Calls Tryd.prog 33 #[.string x, .int .i64 16] w fun e' w' => e' = .returned (.tuple #[.int .i64 m, .bool true]) ∧ w = w') (d2 : ∀ w, Calls Tryd.prog 33 #[.string z, .int .i64 4] w fun e' w' => e' = .returned (.tuple #[.int .i64 e, .bool true]) ∧ w = w') (hm : ((m : Int) % 2 == 0) = false) (hm1 : decide ((9007199254740992 : Int) ≤ (m : Int)) = false) (hez : ((e : Int) == 0) = false) (he : e < 10000) (hmb : m < 9007199254740992) (hL1 : 1 ≤ L) (hL2 : L ≤ 53) (hLp : ∀ j, j < L → 0 < m / 2 ^ j) (hL0 : m / 2 ^ L = 0) (hr1 : ¬ 1023 < -(e : Int) + L - 1) (hr2 : ¬ -(e : Int) < -1074) (hr3 : ¬ -1022 ≤ -(e : Int) + L - 1) (w2 : IntKind.u64.wrap (IntKind.u64.wrap (m : Int) * 2 ^ (-(e : Int) + 1074).toNat) = (G : Int)) (w5 : bits BinOp.or IntKind.u64 (sgW sg : Int) (G : Int) = (A : Int)) :
    Calls Tryd.prog 18 #[.string s] w fun e w' => e = .returned (.tuple #[.int .u64 A, .bool true]) ∧ w = w' := by
  cases sg
  · obtain ⟨rfl, hS⟩ := hS
    exact fp21_sub t x y z i m e L G A w hS hT hN d1 d2 hm hm1 hez he hmb hL1 hL2 hLp hL0 hr1 hr2 hr3 w2 w5
  · exact fp11_sub s t x y z i m e L G A w hS hT hN d1 d2 hm hm1 hez he hmb hL1 hL2 hLp hL0 hr1 hr2 hr3 w2 w5

theorem fpx2_is (s t x y : ByteArray) (i m e : Nat) (b2 : Bool) (w : World) (sg : Bool) (hS : FpSg s t sg) (hT : FpT t x y i) (hN : FpN2 y) (d1 : ∀ w, Calls Tryd.prog 33 #[.string x, .int .i64 16] w fun e' w' => e' = .returned (.tuple #[.int .i64 m, .bool false]) ∧ w = w') (d2 : ∀ w, Calls Tryd.prog 33 #[.string y, .int .i64 4] w fun e' w' => e' = .returned (.tuple #[.int .i64 e, .bool b2]) ∧ w = w') :
    Calls Tryd.prog 18 #[.string s] w fun e w' => e = .returned (.tuple #[.int .u64 0, .bool false]) ∧ w = w' := by
  cases sg
  · obtain ⟨rfl, hS⟩ := hS
    exact fp22_is t x y i m e b2 w hS hT hN d1 d2
  · exact fp12_is s t x y i m e b2 w hS hT hN d1 d2

theorem fpx2_has (s t x y : ByteArray) (i m e : Nat) (w : World) (sg : Bool) (hS : FpSg s t sg) (hT : FpT t x y i) (hN : FpN2 y) (d1 : ∀ w, Calls Tryd.prog 33 #[.string x, .int .i64 16] w fun e' w' => e' = .returned (.tuple #[.int .i64 m, .bool true]) ∧ w = w') (d2 : ∀ w, Calls Tryd.prog 33 #[.string y, .int .i64 4] w fun e' w' => e' = .returned (.tuple #[.int .i64 e, .bool false]) ∧ w = w') :
    Calls Tryd.prog 18 #[.string s] w fun e w' => e = .returned (.tuple #[.int .u64 0, .bool false]) ∧ w = w' := by
  cases sg
  · obtain ⟨rfl, hS⟩ := hS
    exact fp22_has t x y i m e w hS hT hN d1 d2
  · exact fp12_has s t x y i m e w hS hT hN d1 d2

theorem fpx2_even (s t x y : ByteArray) (i m e : Nat) (w : World) (sg : Bool) (hS : FpSg s t sg) (hT : FpT t x y i) (hN : FpN2 y) (d1 : ∀ w, Calls Tryd.prog 33 #[.string x, .int .i64 16] w fun e' w' => e' = .returned (.tuple #[.int .i64 m, .bool true]) ∧ w = w') (d2 : ∀ w, Calls Tryd.prog 33 #[.string y, .int .i64 4] w fun e' w' => e' = .returned (.tuple #[.int .i64 e, .bool true]) ∧ w = w') (hm : ((m : Int) % 2 == 0) = true) :
    Calls Tryd.prog 18 #[.string s] w fun e w' => e = .returned (.tuple #[.int .u64 0, .bool false]) ∧ w = w' := by
  cases sg
  · obtain ⟨rfl, hS⟩ := hS
    exact fp22_even t x y i m e w hS hT hN d1 d2 hm
  · exact fp12_even s t x y i m e w hS hT hN d1 d2 hm

theorem fpx2_big (s t x y : ByteArray) (i m e : Nat) (w : World) (sg : Bool) (hS : FpSg s t sg) (hT : FpT t x y i) (hN : FpN2 y) (d1 : ∀ w, Calls Tryd.prog 33 #[.string x, .int .i64 16] w fun e' w' => e' = .returned (.tuple #[.int .i64 m, .bool true]) ∧ w = w') (d2 : ∀ w, Calls Tryd.prog 33 #[.string y, .int .i64 4] w fun e' w' => e' = .returned (.tuple #[.int .i64 e, .bool true]) ∧ w = w') (hm : ((m : Int) % 2 == 0) = false) (hm1 : decide ((9007199254740992 : Int) ≤ (m : Int)) = true) :
    Calls Tryd.prog 18 #[.string s] w fun e w' => e = .returned (.tuple #[.int .u64 0, .bool false]) ∧ w = w' := by
  cases sg
  · obtain ⟨rfl, hS⟩ := hS
    exact fp22_big t x y i m e w hS hT hN d1 d2 hm hm1
  · exact fp12_big s t x y i m e w hS hT hN d1 d2 hm hm1

theorem fpx2_high (s t x y : ByteArray) (i m e L : Nat) (w : World) (sg : Bool) (hS : FpSg s t sg) (hT : FpT t x y i) (hN : FpN2 y) (d1 : ∀ w, Calls Tryd.prog 33 #[.string x, .int .i64 16] w fun e' w' => e' = .returned (.tuple #[.int .i64 m, .bool true]) ∧ w = w') (d2 : ∀ w, Calls Tryd.prog 33 #[.string y, .int .i64 4] w fun e' w' => e' = .returned (.tuple #[.int .i64 e, .bool true]) ∧ w = w') (hm : ((m : Int) % 2 == 0) = false) (hm1 : decide ((9007199254740992 : Int) ≤ (m : Int)) = false) (he : e < 10000) (hmb : m < 9007199254740992) (hL1 : 1 ≤ L) (hL2 : L ≤ 53) (hLp : ∀ j, j < L → 0 < m / 2 ^ j) (hL0 : m / 2 ^ L = 0) (hhigh : 1023 < (e : Int) + L - 1) :
    Calls Tryd.prog 18 #[.string s] w fun e w' => e = .returned (.tuple #[.int .u64 0, .bool false]) ∧ w = w' := by
  cases sg
  · obtain ⟨rfl, hS⟩ := hS
    exact fp22_high t x y i m e L w hS hT hN d1 d2 hm hm1 he hmb hL1 hL2 hLp hL0 hhigh
  · exact fp12_high s t x y i m e L w hS hT hN d1 d2 hm hm1 he hmb hL1 hL2 hLp hL0 hhigh

theorem fpx2_norm (s t x y : ByteArray) (i m e L : Nat) (Z H Y A : Nat) (w : World) (sg : Bool) (hS : FpSg s t sg) (hT : FpT t x y i) (hN : FpN2 y) (d1 : ∀ w, Calls Tryd.prog 33 #[.string x, .int .i64 16] w fun e' w' => e' = .returned (.tuple #[.int .i64 m, .bool true]) ∧ w = w') (d2 : ∀ w, Calls Tryd.prog 33 #[.string y, .int .i64 4] w fun e' w' => e' = .returned (.tuple #[.int .i64 e, .bool true]) ∧ w = w') (hm : ((m : Int) % 2 == 0) = false) (hm1 : decide ((9007199254740992 : Int) ≤ (m : Int)) = false) (he : e < 10000) (hmb : m < 9007199254740992) (hL1 : 1 ≤ L) (hL2 : L ≤ 53) (hLp : ∀ j, j < L → 0 < m / 2 ^ j) (hL0 : m / 2 ^ L = 0) (hr1 : ¬ 1023 < (e : Int) + L - 1) (w1 : IntKind.u64.wrap (((e : Int) + L - 1 + 1023) * 4503599627370496) = (Z : Int)) (w3 : bits BinOp.and IntKind.u64 (IntKind.u64.wrap (IntKind.u64.wrap (m : Int) * 2 ^ (53 - L))) 4503599627370495 = (H : Int)) (w4 : bits BinOp.or IntKind.u64 (sgW sg : Int) (Z : Int) = (Y : Int)) (w5 : bits BinOp.or IntKind.u64 (Y : Int) (H : Int) = (A : Int)) :
    Calls Tryd.prog 18 #[.string s] w fun e w' => e = .returned (.tuple #[.int .u64 A, .bool true]) ∧ w = w' := by
  cases sg
  · obtain ⟨rfl, hS⟩ := hS
    exact fp22_norm t x y i m e L Z H Y A w hS hT hN d1 d2 hm hm1 he hmb hL1 hL2 hLp hL0 hr1 w1 w3 w4 w5
  · exact fp12_norm s t x y i m e L Z H Y A w hS hT hN d1 d2 hm hm1 he hmb hL1 hL2 hLp hL0 hr1 w1 w3 w4 w5

theorem fpx3_is (s t x y : ByteArray) (i m e : Nat) (b2 : Bool) (w : World) (sg : Bool) (hS : FpSg s t sg) (hT : FpT t x y i) (hN : y.toList.isEmpty = true) (d1 : ∀ w, Calls Tryd.prog 33 #[.string x, .int .i64 16] w fun e' w' => e' = .returned (.tuple #[.int .i64 m, .bool false]) ∧ w = w') (d2 : ∀ w, Calls Tryd.prog 33 #[.string y, .int .i64 4] w fun e' w' => e' = .returned (.tuple #[.int .i64 e, .bool b2]) ∧ w = w') :
    Calls Tryd.prog 18 #[.string s] w fun e w' => e = .returned (.tuple #[.int .u64 0, .bool false]) ∧ w = w' := by
  cases sg
  · obtain ⟨rfl, hS⟩ := hS
    exact fp23_is t x y i m e b2 w hS hT hN d1 d2
  · exact fp13_is s t x y i m e b2 w hS hT hN d1 d2

theorem fpx3_has (s t x y : ByteArray) (i m e : Nat) (w : World) (sg : Bool) (hS : FpSg s t sg) (hT : FpT t x y i) (hN : y.toList.isEmpty = true) (d1 : ∀ w, Calls Tryd.prog 33 #[.string x, .int .i64 16] w fun e' w' => e' = .returned (.tuple #[.int .i64 m, .bool true]) ∧ w = w') (d2 : ∀ w, Calls Tryd.prog 33 #[.string y, .int .i64 4] w fun e' w' => e' = .returned (.tuple #[.int .i64 e, .bool false]) ∧ w = w') :
    Calls Tryd.prog 18 #[.string s] w fun e w' => e = .returned (.tuple #[.int .u64 0, .bool false]) ∧ w = w' := by
  cases sg
  · obtain ⟨rfl, hS⟩ := hS
    exact fp23_has t x y i m e w hS hT hN d1 d2
  · exact fp13_has s t x y i m e w hS hT hN d1 d2

end Go.Proofs.YtpdiajagdehfkaaDoor
