/- The word that an odd number times a power of two has, put together from its bits, and its text; which powers a float's text has. No conditions. -/
import Derived.Test.YtpdiajagdehfkaaDoorFm
import Derived.Test.YtpdiajagdehfkaaDoorR7
namespace Go.Proofs.YtpdiajagdehfkaaDoor
open Go.RowKit Ieee

theorem odd_of (a m k : Nat) (hm : m % 2 = 1) (hr : rg a < 9218868437227405312) (hV : V (rg a) = m * 2 ^ k) : oddM a = m ∧ oddE a + 1074 = k := by
  obtain ⟨j, k1, k2⟩ := val_odd a hr
  rw [hV] at k2
  have ho : oddM a % 2 = 1 := by
    rcases odd_odd a with ⟨e1, _⟩ | e1
    · rw [e1, Nat.zero_mul] at k2
      have := Nat.mul_pos (show 0 < m by omega) (Nat.two_pow_pos k)
      omega
    · exact e1
  obtain ⟨e1, e2⟩ := odd_unique m (oddM a) k j hm ho k2
  exact ⟨e1.symm, by omega⟩

/-- The sign's bit, as a word. -/
def sgW (sg : Bool) : Nat := if sg then 9223372036854775808 else 0
def sgL (sg : Bool) : List UInt8 := if sg then [45] else []

theorem sgW_add (sg : Bool) (r : Nat) (hr : r < 9223372036854775808) : sgW sg + r < 18446744073709551616 ∧ rg (sgW sg + r) = r ∧ sgB (sgW sg + r) = sg := by
  unfold sgW
  cases sg
  · simp only [Bool.false_eq_true, if_false, Nat.zero_add]
    exact ⟨by omega, by unfold rg; omega, (sgB_false (by omega)).2 hr⟩
  · simp only [if_true]
    exact ⟨by omega, by unfold rg; omega, (sgB_true (by omega)).2 (by omega)⟩
theorem or_sg (sg : Bool) (r : Nat) (hr : r < 9223372036854775808) : bits BinOp.or IntKind.u64 (sgW sg : Int) (r : Int) = ((sgW sg + r : Nat) : Int) := by
  have h := bits_or_u64_nat (sgW sg) r (by unfold sgW; split <;> omega) (by omega)
  rw [nat_join 63 (sgW sg) r (by unfold sgW; split <;> decide) hr] at h
  exact h

/-- A finite word whose value is an odd number times a power has that text. -/
theorem text_of (sg : Bool) (r m k : Nat) (E : Int) (hE : E + 1074 = k) (hm : m % 2 = 1) (hr : r < 9218868437227405312) (hV : V r = m * 2 ^ k) :
    nanB (sgW sg + r) = false ∧ textL (sgW sg + r) = sgL sg ++ (Lib.decDigits m ++ 112 :: Lib.itoa E) := by
  obtain ⟨h1, h2, h3⟩ := sgW_add sg r (by omega)
  obtain ⟨o1, o2⟩ := odd_of (sgW sg + r) m k hm (by rw [h2]; exact hr) (by rw [h2]; exact hV)
  refine ⟨by rw [nan_rg, h2, decide_eq_false_iff_not]; omega, ?_⟩
  rw [textL_fin _ (by rw [h2]; exact hr)]
  unfold finL sgL
  rw [h3, o1, show oddE (sgW sg + r) = E by omega]

theorem wrap_nat (n : Nat) (h : n < 18446744073709551616) : IntKind.u64.wrap (n : Int) = (n : Int) := by
  rw [IntKind.wrap_u64, Int.emod_eq_of_lt (by omega) (by omega)]

theorem norm_word (m k L : Nat) (E : Int) (sg : Bool) (hE : E + 1074 = k) (hL : L = m.log2 + 1) (hm : m % 2 = 1) (hmb : m < 9007199254740992) (h1 : 53 ≤ k + L) (h2 : k + L ≤ 2098) :
    ∃ Z H Y A : Nat, IntKind.u64.wrap ((E + L - 1 + 1023) * 4503599627370496) = (Z : Int) ∧ bits BinOp.and IntKind.u64 (IntKind.u64.wrap (IntKind.u64.wrap (m : Int) * 2 ^ (53 - L))) 4503599627370495 = (H : Int) ∧
      bits BinOp.or IntKind.u64 (sgW sg : Int) (Z : Int) = (Y : Int) ∧ bits BinOp.or IntKind.u64 (Y : Int) (H : Int) = (A : Int) ∧
      A < 18446744073709551616 ∧ nanB A = false ∧ textL A = sgL sg ++ (Lib.decDigits m ++ 112 :: Lib.itoa E) := by
  obtain ⟨s1, s2, s3⟩ := sig_bd m (by omega) hmb
  obtain ⟨j, hj⟩ : ∃ j, j + 53 = k + L := ⟨k + L - 53, by omega⟩
  have hsig : m * 2 ^ (53 - L) = sig m := by unfold sig; rw [hL, show 53 - (m.log2 + 1) = 52 - m.log2 by omega]
  have hV : V (j * 4503599627370496 + sig m) = m * 2 ^ k := by
    rw [V_at j _ s1 s2, ← hsig, pw_eq, Nat.mul_assoc, ← Nat.pow_add, show 53 - L + j = k by omega]
  have hlt : j * 4503599627370496 + sig m < 9218868437227405312 := by omega
  obtain ⟨g1, g2, g3⟩ := sgW_add sg (j * 4503599627370496 + sig m) (by omega)
  obtain ⟨t1, t2⟩ := text_of sg _ m k E hE hm hlt hV
  refine ⟨(j + 1) * 4503599627370496, sig m - 4503599627370496, sgW sg + (j + 1) * 4503599627370496, sgW sg + (j * 4503599627370496 + sig m), ?_, ?_, or_sg sg _ (by omega), ?_, g1, t1, t2⟩
  · rw [show (E + L - 1 + 1023) * 4503599627370496 = (((j + 1) * 4503599627370496 : Nat) : Int) by omega]
    exact wrap_nat _ (by omega)
  · rw [wrap_nat m (by omega), show (m : Int) * 2 ^ (53 - L) = ((m * 2 ^ (53 - L) : Nat) : Int) by rw [Int.natCast_mul, Int.natCast_pow]; rfl, hsig, wrap_nat _ (by omega), mask52 _ (by omega), show sig m % 4503599627370496 = sig m - 4503599627370496 by omega]
  · have h := bits_or_u64_nat (sgW sg + (j + 1) * 4503599627370496) (sig m - 4503599627370496) (by have := (sgW_add sg ((j + 1) * 4503599627370496) (by omega)).1; exact this) (by omega)
    rw [nat_join 52 (sgW sg + (j + 1) * 4503599627370496) (sig m - 4503599627370496) (by unfold sgW; split <;> omega) (by omega)] at h
    rw [show sgW sg + (j * 4503599627370496 + sig m) = sgW sg + (j + 1) * 4503599627370496 + (sig m - 4503599627370496) by omega]
    exact h

theorem sub_word (m k L : Nat) (E : Int) (sg : Bool) (hE : E + 1074 = k) (hL : L = m.log2 + 1) (hm : m % 2 = 1) (h1 : k + L < 53) :
    ∃ G A : Nat, IntKind.u64.wrap (IntKind.u64.wrap (m : Int) * 2 ^ (E + 1074).toNat) = (G : Int) ∧ bits BinOp.or IntKind.u64 (sgW sg : Int) (G : Int) = (A : Int) ∧
      A < 18446744073709551616 ∧ nanB A = false ∧ textL A = sgL sg ++ (Lib.decDigits m ++ 112 :: Lib.itoa E) := by
  have hb : m * 2 ^ k < 4503599627370496 := by
    have hlt : m < 2 ^ L := by rw [hL]; exact Nat.lt_log2_self
    have h3 : m * 2 ^ k < 2 ^ L * 2 ^ k := (Nat.mul_lt_mul_right (Nat.two_pow_pos k)).2 hlt
    rw [← Nat.pow_add] at h3
    have h4 : 2 ^ (L + k) ≤ 2 ^ 52 := Nat.pow_le_pow_right (by omega) (by omega)
    simp only [Nat.reducePow] at h4
    omega
  have hmk : m ≤ m * 2 ^ k := Nat.le_mul_of_pos_right _ (Nat.two_pow_pos k)
  have hV : V (m * 2 ^ k) = m * 2 ^ k := by
    generalize m * 2 ^ k = r at *
    unfold V
    rw [if_pos hb]
  obtain ⟨g1, g2, g3⟩ := sgW_add sg (m * 2 ^ k) (by omega)
  obtain ⟨t1, t2⟩ := text_of sg _ m k E hE hm (by omega) hV
  refine ⟨m * 2 ^ k, sgW sg + m * 2 ^ k, ?_, or_sg sg _ (by omega), g1, t1, t2⟩
  rw [wrap_nat m (by omega), hE, Int.toNat_natCast, show (m : Int) * 2 ^ k = ((m * 2 ^ k : Nat) : Int) by rw [Int.natCast_mul, Int.natCast_pow]; rfl]
  exact wrap_nat _ (by omega)

/-- The powers of a finite float's text. -/
theorem fin_high (a : Nat) (h : rg a < 9218868437227405312) (hm : oddM a % 2 = 1) : oddE a + ((oddM a).log2 : Int) ≤ 1023 := by
  obtain ⟨k, k1, k2⟩ := val_odd a h
  obtain ⟨T, hT⟩ : ∃ T : Nat, T = 2098 := ⟨_, rfl⟩
  have h1 : V (rg a) < V (2046 * 4503599627370496 + 4503599627370496) := V_lt (by omega)
  rw [V_at 2046 4503599627370496 (by omega) (by omega), ← pw52, ← pw_split 52 2046 T (by omega), k2] at h1
  have h2 := Nat.log2_self_le (show oddM a ≠ 0 by omega)
  have h3 : 2 ^ (oddM a).log2 * 2 ^ k ≤ oddM a * 2 ^ k := Nat.mul_le_mul_right _ h2
  rw [← Nat.pow_add] at h3
  have h4 : 2 ^ ((oddM a).log2 + k) < 2 ^ T := Nat.lt_of_le_of_lt h3 h1
  have h5 := (Nat.pow_lt_pow_iff_right (by omega : 1 < 2)).1 h4
  omega

theorem log_facts (m L : Nat) (hm : m % 2 = 1) (hmb : m < 9007199254740992) (hL : L = m.log2 + 1) : 1 ≤ L ∧ L ≤ 53 ∧ (∀ j, j < L → 0 < m / 2 ^ j) ∧ m / 2 ^ L = 0 := by
  have h0 : m ≠ 0 := by omega
  obtain ⟨_, _, s3⟩ := sig_bd m h0 hmb
  refine ⟨by omega, by omega, fun j hj => Nat.div_pos ?_ (Nat.two_pow_pos j), Nat.div_eq_of_lt (by rw [hL]; exact Nat.lt_log2_self)⟩
  exact Nat.le_trans (Nat.pow_le_pow_right (by omega) (by omega)) (Nat.log2_self_le h0)

end Go.Proofs.YtpdiajagdehfkaaDoor
