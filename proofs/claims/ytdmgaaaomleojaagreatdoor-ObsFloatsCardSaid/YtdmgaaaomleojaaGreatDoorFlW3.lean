/- W3 of stage 1: floats. -/
import Derived.Shelf.Spec.TrailingZeros
import Derived.Laws.BitsAllLaws
import Derived.Lib.SmallJoins
import Derived.Test.YtdmgaaaomleojaaGreatDoorFlW2
namespace Go.Proofs.YtdmgaaaomleojaaGreatDoor.Fl
open Go.RowKit Ieee
set_option maxHeartbeats 400000 in
theorem tz64_core (x k idx : Nat) (w : World) (hx0 : ((x : Int) == 0) = false)
    (key : IntKind.u64.wrap (bits BinOp.and IntKind.u64 (x : Int) (IntKind.u64.wrap (-(x : Int))) * 285870213051353865) / 288230376151711744 = (idx : Int))
    (hi : idx < 64) (hk : k < 64) (hcell : w.cell? ⟨4, idx, none⟩ = some (.int .u8 k)) :
    Calls Tryz.prog 78 #[.int .u64 x] w fun e w' => e = .returned (.int .i64 k) ∧ w = w' := by
  go_enter Tryz.func78, Tryz.ntmps78
  go_wp2_with (simp only [key])
  go_ret
  exact ⟨rfl, rfl⟩
/-- math/bits.TrailingZeros64, of what is not 0. -/
theorem tz64_any (x : Nat) (hx : x < 18446744073709551616) (hx0 : x ≠ 0) (w : World) (hT : TabAt 4 Lib.deBruijn64tab w) :
    Calls Tryz.prog 78 #[.int .u64 x] w fun e w' => e = .returned (.int .i64 (Lib.ctz 64 x)) ∧ w = w' := by
  obtain ⟨hlow, hk⟩ := Lib.lowest_bit 64 x hx0 hx
  obtain ⟨hi, htab⟩ := Lib.deBruijn64_at _ hk
  have hcell := hT _ hi
  rw [htab] at hcell
  exact tz64_core x _ _ w (by simp; omega) (tz64_key x _ hx hx0 hlow) hi hk hcell
/-- The odd number and the power of 2 of a finite word, its sign left out. -/
def magOf (a : Nat) : Nat := if a / 4503599627370496 % 2048 = 0 then a % 4503599627370496 else a % 4503599627370496 + 4503599627370496
def expOf (a : Nat) : Int := if a / 4503599627370496 % 2048 = 0 then -1074 else (a / 4503599627370496 % 2048 : Nat) - 1075
def oddM (a : Nat) : Nat := if magOf a = 0 then 0 else magOf a / 2 ^ Lib.ctz 64 (magOf a)
def oddE (a : Nat) : Int := if magOf a = 0 then 0 else expOf a + (Lib.ctz 64 (magOf a) : Nat)
set_option maxRecDepth 100000 in
set_option maxHeartbeats 400000 in
theorem odd_zero (a : Nat) (w : World) (h1 : bits BinOp.and IntKind.u64 (a : Int) 4503599627370495 = 0) (h2 : bits BinOp.and IntKind.u64 ((a : Int) / 4503599627370496) 2047 = 0) :
    Calls Tryz.prog 58 #[.int .u64 a] w fun e w' => e = .returned (.tuple #[.int .u64 0, .int .i64 0]) ∧ w = w' := by
  go_enter Tryz.func58, Tryz.ntmps58
  go_wp2_with fail
  go_ret2
  exact ⟨rfl, rfl⟩
set_option maxRecDepth 100000 in
set_option maxHeartbeats 400000 in
theorem odd_sub (a F z : Nat) (w : World) (h1 : bits BinOp.and IntKind.u64 (a : Int) 4503599627370495 = (F : Int)) (h2 : bits BinOp.and IntKind.u64 ((a : Int) / 4503599627370496) 2047 = 0)
    (hF : ((F : Int) == 0) = false) (hz : z < 64)
    (ht : Calls Tryz.prog 78 #[.int .u64 F] w fun e w' => e = .returned (.int .i64 z) ∧ w = w') :
    Calls Tryz.prog 58 #[.int .u64 a] w fun e w' => e = .returned (.tuple #[.int .u64 (F / 2 ^ z : Nat), .int .i64 (-1074 + z)]) ∧ w = w' := by
  have HT := Lib.hid ht
  clear ht
  go_enter Tryz.func58, Tryz.ntmps58
  go_wp2_with (go_at_call 78; refine (HT.out).mono ?_; rintro e w' ⟨rfl, rfl⟩)
  go_ret2
  exact ⟨rfl, rfl⟩
set_option maxRecDepth 100000 in
set_option maxHeartbeats 400000 in
theorem odd_norm (a F E G z : Nat) (w : World) (h1 : bits BinOp.and IntKind.u64 (a : Int) 4503599627370495 = (F : Int)) (h2 : bits BinOp.and IntKind.u64 ((a : Int) / 4503599627370496) 2047 = (E : Int))
    (hE : ((E : Int) == 0) = false) (hE1 : E < 2048) (h3 : bits BinOp.or IntKind.u64 (F : Int) 4503599627370496 = (G : Int)) (hG : ((G : Int) == 0) = false) (hz : z < 64)
    (ht : Calls Tryz.prog 78 #[.int .u64 G] w fun e w' => e = .returned (.int .i64 z) ∧ w = w') :
    Calls Tryz.prog 58 #[.int .u64 a] w fun e w' => e = .returned (.tuple #[.int .u64 (G / 2 ^ z : Nat), .int .i64 (-1074 + E - 1 + z)]) ∧ w = w' := by
  have HT := Lib.hid ht
  clear ht
  go_enter Tryz.func58, Tryz.ntmps58
  go_wp2_with (go_at_call 78; refine (HT.out).mono ?_; rintro e w' ⟨rfl, rfl⟩)
  go_ret2
  exact ⟨rfl, rfl⟩
theorem mask52 (a : Nat) (ha : a < 18446744073709551616) : bits BinOp.and IntKind.u64 (a : Int) 4503599627370495 = ((a % 4503599627370496 : Nat) : Int) := by
  have h := bits_and_u64_nat a 4503599627370495 ha (by omega)
  rw [show a &&& 4503599627370495 = a % 4503599627370496 from Nat.and_two_pow_sub_one_eq_mod a 52] at h
  exact h
theorem mask11 (a : Nat) (ha : a < 18446744073709551616) : bits BinOp.and IntKind.u64 ((a : Int) / 4503599627370496) 2047 = ((a / 4503599627370496 % 2048 : Nat) : Int) := by
  have h := bits_and_u64_nat (a / 4503599627370496) 2047 (by omega) (by omega)
  rw [show a / 4503599627370496 &&& 2047 = a / 4503599627370496 % 2048 from Nat.and_two_pow_sub_one_eq_mod _ 11] at h
  exact h
theorem or52 (F : Nat) (hF : F < 4503599627370496) : bits BinOp.or IntKind.u64 (F : Int) 4503599627370496 = ((F + 4503599627370496 : Nat) : Int) := by
  have h := bits_or_u64_nat F 4503599627370496 (by omega) (by omega)
  rw [Nat.or_comm, nat_join 52 4503599627370496 F (by decide) hF, Nat.add_comm] at h
  exact h
theorem odd_any (a : Nat) (ha : a < 18446744073709551616) (w : World) (hT : TabAt 4 Lib.deBruijn64tab w) :
    Calls Tryz.prog 58 #[.int .u64 a] w fun e w' => e = .returned (.tuple #[.int .u64 (oddM a : Nat), .int .i64 (oddE a)]) ∧ w = w' := by
  have h1 := mask52 a ha
  have h2 := mask11 a ha
  unfold oddM oddE magOf expOf
  by_cases hE : a / 4503599627370496 % 2048 = 0
  · rw [hE] at h2
    simp only [if_pos hE]
    by_cases hF : a % 4503599627370496 = 0
    · rw [hF] at h1
      simp only [if_pos hF]
      exact odd_zero a w h1 h2
    · simp only [if_neg hF]
      have hl := Lib.lowest_bit 64 (a % 4503599627370496) hF (by omega)
      exact odd_sub a _ _ w h1 h2 (by simp; omega) hl.2 (tz64_any _ (by omega) hF w hT)
  · simp only [if_neg hE]
    have hG : a % 4503599627370496 + 4503599627370496 ≠ 0 := by omega
    simp only [if_neg hG]
    have hl := Lib.lowest_bit 64 (a % 4503599627370496 + 4503599627370496) hG (by omega)
    refine (odd_norm a _ _ _ _ w h1 h2 (by simp; omega) (by omega) (or52 _ (by omega)) (by simp; omega) hl.2 (tz64_any _ (by omega) hG w hT)).mono fun e w' ⟨he, hw⟩ => ⟨?_, hw⟩
    have e : ∀ E z : Int, -1074 + E - 1 + z = E - 1075 + z := fun E z => by omega
    rw [he, e]
end Go.Proofs.YtdmgaaaomleojaaGreatDoor.Fl
