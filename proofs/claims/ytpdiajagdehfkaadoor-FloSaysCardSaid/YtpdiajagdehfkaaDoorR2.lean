/- The document's own text of a float is the program's. Conditions: the two tables as start-up lays them; 64 bits. -/
import Derived.Test.YtpdiajagdehfkaaDoorR1
import Derived.Test.YtpdiajagdehfkaaDoorFm
namespace Go.Proofs.YtpdiajagdehfkaaDoor
open Go.RowKit Ieee

set_option maxRecDepth 100000 in
set_option maxHeartbeats 400000 in
theorem rtext_nan (a : Nat) (w : World) (hc : ∀ w, Calls Tryd.prog 21 #[.int .u64 a] w fun e w' => e = .returned (.int .u64 9221120237041090560) ∧ w = w') :
    Calls Tryd.prog 25 #[.int .u64 a] w (Grew (.string ⟨#[110, 97, 110]⟩) w) := by
  have HC := Lib.hid hc
  clear hc
  go_enter Tryd.func25, Tryd.ntmps25
  go_wp2_with fail
  refine (HC.out _).mono ?_
  rintro e w' ⟨rfl, rfl⟩
  go_wp2_with fail
  go_ret
  exact ⟨rfl, Below.refl _ _⟩

set_option maxRecDepth 100000 in
set_option maxHeartbeats 400000 in
theorem rtext_inf (a : Nat) (sg : Bool) (w : World) (hc : ∀ w, Calls Tryd.prog 21 #[.int .u64 a] w fun e w' => e = .returned (.int .u64 a) ∧ w = w')
    (hn : ((a : Int) == 9221120237041090560) = false) (hs : ((a : Int) / 9223372036854775808 == 1) = sg) (h2 : bits BinOp.and IntKind.u64 ((a : Int) / 4503599627370496) 2047 = 2047) :
    Calls Tryd.prog 25 #[.int .u64 a] w (Grew (.string ((⟨if sg then #[45] else #[]⟩ : ByteArray) ++ ⟨#[105, 110, 102]⟩)) w) := by
  have HC := Lib.hid hc
  clear hc
  cases sg
  all_goals
    go_enter Tryd.func25, Tryd.ntmps25
    go_wp2_with fail
    refine (HC.out _).mono ?_
    rintro e w' ⟨rfl, rfl⟩
    go_wp2_with fail
    go_ret
    exact ⟨rfl, Below.refl _ _⟩

set_option maxRecDepth 100000 in
set_option maxHeartbeats 400000 in
theorem rtext_zero (a : Nat) (sg : Bool) (w : World) (hc : ∀ w, Calls Tryd.prog 21 #[.int .u64 a] w fun e w' => e = .returned (.int .u64 a) ∧ w = w')
    (hn : ((a : Int) == 9221120237041090560) = false) (hs : ((a : Int) / 9223372036854775808 == 1) = sg) (h2 : bits BinOp.and IntKind.u64 ((a : Int) / 4503599627370496) 2047 = 0) (h1 : bits BinOp.and IntKind.u64 (a : Int) 4503599627370495 = 0) :
    Calls Tryd.prog 25 #[.int .u64 a] w (Grew (.string ((⟨if sg then #[45] else #[]⟩ : ByteArray) ++ ⟨#[48, 112, 48]⟩)) w) := by
  have HC := Lib.hid hc
  clear hc
  cases sg
  all_goals
    go_enter Tryd.func25, Tryd.ntmps25
    go_wp2_with fail
    refine (HC.out _).mono ?_
    rintro e w' ⟨rfl, rfl⟩
    go_wp2_with fail
    go_ret
    exact ⟨rfl, Below.refl _ _⟩

set_option maxRecDepth 100000 in
set_option maxHeartbeats 2000000 in
theorem rtext_fin (a F E m0 M : Nat) (e0 n : Int) (sg : Bool) (x y : ByteArray) (w : World) (hx : x.size ≤ 1000) (hy : y.size ≤ 1000)
    (hc : ∀ w, Calls Tryd.prog 21 #[.int .u64 a] w fun e w' => e = .returned (.int .u64 a) ∧ w = w')
    (hn : ((a : Int) == 9221120237041090560) = false) (hs : ((a : Int) / 9223372036854775808 == 1) = sg) (h2 : bits BinOp.and IntKind.u64 ((a : Int) / 4503599627370496) 2047 = (E : Int)) (h1 : bits BinOp.and IntKind.u64 (a : Int) 4503599627370495 = (F : Int))
    (hcase : (E = 0 ∧ m0 = F ∧ e0 = -1074) ∨ (E ≠ 0 ∧ E < 2047 ∧ bits BinOp.or IntKind.u64 (F : Int) 4503599627370496 = (m0 : Int) ∧ e0 = E - 1075))
    (hm0 : m0 ≠ 0) (hm1 : m0 < 9007199254740992) (hodd : ∀ mk j : Nat, mk % 2 = 1 → mk * 2 ^ j = m0 → mk = M ∧ e0 + j = n)
    (h5 : Calls Tryd.prog 39 #[.int .u64 M, .int .i64 10] w (Grew (.string x) w))
    (h6 : ∀ w1, Below w.heap.size w w1 → Calls Tryd.prog 40 #[.int .i64 n] w1 (Grew (.string y) w1)) :
    Calls Tryd.prog 25 #[.int .u64 a] w (Grew (.string ((⟨if sg then #[45] else #[]⟩ : ByteArray) ++ x ++ ⟨#[112]⟩ ++ y)) w) := by
  have HC := Lib.hid hc
  have HO := Lib.hid hodd
  have H5 := Lib.hid h5
  have H6 := Lib.hid h6
  clear hc hodd h5 h6
  have hz : ((m0 : Int) == 0) = false := by simp; omega
  rcases hcase with ⟨rfl, rfl, rfl⟩ | ⟨g0, g1, g2, rfl⟩
  · cases sg
    all_goals
      go_enter Tryd.func25, Tryd.ntmps25
      go_wp2_with fail
      refine (HC.out _).mono ?_
      rintro e w' ⟨rfl, rfl⟩
      go_wp2_with fail
      go_loop [4, 5] (fun ve vm => ∃ mk j : Nat, ve = .int .i64 (-1074 + j) ∧ vm = .int .u64 mk ∧ j ≤ 53 ∧ Hid (mk * 2 ^ j = m0)) (fun _ vm => (intOf vm).toNat)
      case atStart => exact ⟨m0, 0, rfl, rfl, by omega, Lib.hid (by simp)⟩
      case round =>
        obtain ⟨mk, j, rfl, rfl, hj, hh⟩ := hrel
        have hk0 : mk ≠ 0 := fun e => hm0 (by rw [← hh.out, e, Nat.zero_mul])
        have hk1 : mk < 9007199254740992 := Nat.lt_of_le_of_lt (Nat.le_trans (Nat.le_mul_of_pos_right mk (Nat.two_pow_pos j)) (Nat.le_of_eq hh.out)) hm1
        have hj2 : j < 53 := by
          rcases Nat.lt_or_ge j 53 with g | g
          · exact g
          · exfalso
            have h8 : 2 ^ 53 ≤ 2 ^ j := Nat.pow_le_pow_right (by omega) g
            have h9 : 2 ^ j ≤ mk * 2 ^ j := Nat.le_mul_of_pos_left _ (by omega)
            rw [hh.out] at h9
            omega
        by_cases hp : mk % 2 = 0
        · have ht : ((mk : Int) % 2 == 0) = true := by simp; omega
          have HN : Hid (mk / 2 * 2 ^ (j + 1) = m0) := Lib.hid (by
            rw [Nat.pow_succ, Nat.mul_comm (2 ^ j), ← Nat.mul_assoc, Nat.div_mul_cancel (Nat.dvd_of_mod_eq_zero hp)]; exact hh.out)
          clear hp
          go_wp2_with fail
          go_round
          case rel => exact ⟨mk / 2, j + 1, by go_num, by go_num, by omega, HN⟩
          case measure => simp [intOf]; omega
        · have ht : ((mk : Int) % 2 == 0) = false := by simp; omega
          obtain ⟨rfl, hn2⟩ := HO.out mk j (by omega) hh.out
          have HE := Lib.hid hn2
          clear hn2 hp
          go_wp2_with fail
          refine H5.out.mono ?_
          rintro e w1 ⟨rfl, hb1⟩
          go_wp2_with fail
          rw [HE.out]
          refine (H6.out w1 hb1).mono ?_
          rintro e w2 ⟨rfl, hb2⟩
          go_wp2_with fail
          go_ret
          exact ⟨rfl, hb1.trans (hb2.mono hb1.size)⟩
  · have hE0 : ((E : Int) == 0) = false := by simp; omega
    have hE7 : ((E : Int) == 2047) = false := by simp; omega
    cases sg
    all_goals
      go_enter Tryd.func25, Tryd.ntmps25
      go_wp2_with fail
      refine (HC.out _).mono ?_
      rintro e w' ⟨rfl, rfl⟩
      go_wp2_with fail
      go_loop [4, 5] (fun ve vm => ∃ mk j : Nat, ve = .int .i64 (E - 1075 + j) ∧ vm = .int .u64 mk ∧ j ≤ 53 ∧ Hid (mk * 2 ^ j = m0)) (fun _ vm => (intOf vm).toNat)
      case atStart => exact ⟨m0, 0, by go_num, rfl, by omega, Lib.hid (by simp)⟩
      case round =>
        obtain ⟨mk, j, rfl, rfl, hj, hh⟩ := hrel
        have hk0 : mk ≠ 0 := fun e => hm0 (by rw [← hh.out, e, Nat.zero_mul])
        have hk1 : mk < 9007199254740992 := Nat.lt_of_le_of_lt (Nat.le_trans (Nat.le_mul_of_pos_right mk (Nat.two_pow_pos j)) (Nat.le_of_eq hh.out)) hm1
        have hj2 : j < 53 := by
          rcases Nat.lt_or_ge j 53 with g | g
          · exact g
          · exfalso
            have h8 : 2 ^ 53 ≤ 2 ^ j := Nat.pow_le_pow_right (by omega) g
            have h9 : 2 ^ j ≤ mk * 2 ^ j := Nat.le_mul_of_pos_left _ (by omega)
            rw [hh.out] at h9
            omega
        by_cases hp : mk % 2 = 0
        · have ht : ((mk : Int) % 2 == 0) = true := by simp; omega
          have HN : Hid (mk / 2 * 2 ^ (j + 1) = m0) := Lib.hid (by
            rw [Nat.pow_succ, Nat.mul_comm (2 ^ j), ← Nat.mul_assoc, Nat.div_mul_cancel (Nat.dvd_of_mod_eq_zero hp)]; exact hh.out)
          clear hp
          go_wp2_with fail
          go_round
          case rel => exact ⟨mk / 2, j + 1, by go_num, by go_num, by omega, HN⟩
          case measure => simp [intOf]; omega
        · have ht : ((mk : Int) % 2 == 0) = false := by simp; omega
          obtain ⟨rfl, hn2⟩ := HO.out mk j (by omega) hh.out
          have HE := Lib.hid hn2
          clear hn2 hp
          go_wp2_with fail
          refine H5.out.mono ?_
          rintro e w1 ⟨rfl, hb1⟩
          go_wp2_with fail
          rw [HE.out]
          refine (H6.out w1 hb1).mono ?_
          rintro e w2 ⟨rfl, hb2⟩
          go_wp2_with fail
          go_ret
          exact ⟨rfl, hb1.trans (hb2.mono hb1.size)⟩

end Go.Proofs.YtpdiajagdehfkaaDoor
