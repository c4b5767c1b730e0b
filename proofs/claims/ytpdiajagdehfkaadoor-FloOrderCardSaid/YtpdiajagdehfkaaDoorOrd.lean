/- The order of floats: less than what is less is less; a sum with more is no less; minus turns it round. Conditions: each word has 64 bits. -/
import Derived.Test.YtpdiajagdehfkaaDoorOps
import Derived.Test.YtpdiajagdehfkaaDoorRnd
namespace Go.Proofs.YtpdiajagdehfkaaDoor
open Ieee

theorem lt_iff (a b : Nat) : ltB a b = true ↔ nanB a = false ∧ nanB b = false ∧ sv a < sv b := by
  unfold ltB
  cases ha : nanB a
  · cases hb : nanB b
    · rw [order_sv a b ha hb]
      rcases Int.lt_trichotomy (sv a) (sv b) with h | h | h
      · simp [compare_lt h, h]
      · simp [h]
      · simp [compare_gt h]; omega
    · simp [(order_nan a b).2 (Or.inr hb)]
  · simp [(order_nan a b).2 (Or.inl ha)]

theorem lt_trans' (a b c : Nat) (h1 : ltB a b = true) (h2 : ltB b c = true) : ltB a c = true := by
  rw [lt_iff] at *
  exact ⟨h1.1, h2.2.1, Int.lt_trans h1.2.2 h2.2.2⟩

theorem sv_bounds (x : Nat) (h : nanB x = false) : -(V 9218868437227405312 : Int) ≤ sv x ∧ sv x ≤ V 9218868437227405312 := by
  rw [nan_rg, decide_eq_false_iff_not] at h
  have := V_le (show rg x ≤ 9218868437227405312 by omega)
  unfold sv sgn
  split <;> omega

theorem sv_inf (x : Nat) (h : rg x = 9218868437227405312) : sv x = sgn (sgB x) (V 9218868437227405312) := by unfold sv; rw [h]

/-- What a sum with a second summand that is finite is. -/
theorem add_inf_fin (x c : Nat) (hx : x < 18446744073709551616) (h : rg x = 9218868437227405312) (hc : rg c < 9218868437227405312) : fop .add x c = x := by
  obtain ⟨n, l, e2, _⟩ := read_num c hc
  have hn : nanB x = false := by rw [nan_rg, h]; rfl
  rw [← canon_of_num hn]
  rw [show fop .add (canonN x) c = fop .add x c by rw [canon_of_num hn]]
  refine fop_of_some ?_
  show Ieee.double.add x c = _
  unfold Format.add
  rw [read_inf x h, e2]
  simp only [Datum.sum, Option.map_some, Format.write]
  rw [write_inf x hx h]
theorem add_any_inf (x c : Nat) (hc : c < 18446744073709551616) (h : rg c = 9218868437227405312) : fop .add x c = c ∨ nanB (fop .add x c) = true := by
  have hn : nanB c = false := by rw [nan_rg, h]; rfl
  rcases three x with ⟨hx, _⟩ | ⟨hx, _⟩ | ⟨_, hx⟩
  · obtain ⟨n, l, e2, _⟩ := read_num x hx
    left
    have : fop .add x c = canonN c := by
      refine fop_of_some ?_
      show Ieee.double.add x c = _
      unfold Format.add
      rw [read_inf c h, e2]
      simp only [Datum.sum, Option.map_some, Format.write]
      rw [write_inf c hc h]
    rw [this, canon_of_num hn]
  · by_cases hs : sgB x = sgB c
    · left
      have : fop .add x c = canonN c := by
        refine fop_of_some ?_
        show Ieee.double.add x c = _
        unfold Format.add
        rw [read_inf c h, read_inf x hx]
        simp only [Datum.sum]
        rw [if_pos hs, hs]
        simp only [Option.map_some, Format.write]
        rw [write_inf c hc h]
      rw [this, canon_of_num hn]
    · right
      have : fop .add x c = 9221120237041090560 := by
        refine fop_of_none ?_
        show Ieee.double.add x c = _
        unfold Format.add
        rw [read_inf c h, read_inf x hx]
        simp only [Datum.sum]
        rw [if_neg hs]
        rfl
      rw [this]
      decide
  · right
    have : fop .add x c = 9221120237041090560 := by
      refine fop_of_none ?_
      show Ieee.double.add x c = none
      obtain ⟨s, t, e⟩ := (read_nan x).1 hx
      unfold Format.add
      rw [e]
      rfl
    rw [this]
    decide
theorem add_fin (x c : Nat) (hx : rg x < 9218868437227405312) (hc : rg c < 9218868437227405312) : sv (fop .add x c) = G (sv x + sv c) := by
  obtain ⟨r, h1, h2, h3⟩ := add_sv x c hx hc
  have : fop .add x c = canonN r := fop_of_some h1
  rw [this, canon_of_num h2, h3]
theorem add_nan_right (x c : Nat) (h : nanB c = true) : nanB (fop .add x c) = true := by
  have : fop .add x c = 9221120237041090560 := by
    refine fop_of_none ?_
    show Ieee.double.add x c = none
    obtain ⟨s, t, e⟩ := (read_nan c).1 h
    unfold Format.add
    rw [e]
    cases Ieee.double.read x <;> rfl
  rw [this]
  decide

/-- A SUM WITH MORE IS NO LESS. -/
theorem add_more (a b c : Nat) (ha : a < 18446744073709551616) (hb : b < 18446744073709551616) (hc : c < 18446744073709551616) (h : ltB a b = true) : ltB (fop .add b c) (fop .add a c) = false := by
  rw [Bool.eq_false_iff, Ne, lt_iff]
  rintro ⟨hq, hp, hlt⟩
  rw [lt_iff] at h
  obtain ⟨na, nb, hab⟩ := h
  have ba := sv_bounds a na
  have bb := sv_bounds b nb
  have bp := sv_bounds _ hp
  have bq := sv_bounds _ hq
  rcases three c with ⟨c1, _⟩ | ⟨c1, _⟩ | ⟨_, c1⟩
  · rcases three a with ⟨a1, _⟩ | ⟨a1, _⟩ | ⟨_, a1⟩
    · rcases three b with ⟨b1, _⟩ | ⟨b1, _⟩ | ⟨_, b1⟩
      · rw [add_fin a c a1 c1, add_fin b c b1 c1] at hlt
        have := G_mono (show sv a + sv c ≤ sv b + sv c by omega)
        omega
      · rw [add_inf_fin b c hb b1 c1] at hlt
        rw [sv_inf b b1] at hab hlt bb
        unfold sgn at hab hlt bb
        cases hs : sgB b <;> simp only [hs, Bool.false_eq_true, if_false, if_true] at hab hlt <;> omega
      · rw [b1] at nb; cases nb
    · rw [add_inf_fin a c ha a1 c1] at hlt
      rw [sv_inf a a1] at hab hlt ba
      unfold sgn at hab hlt ba
      cases hs : sgB a <;> simp only [hs, Bool.false_eq_true, if_false, if_true] at hab hlt <;> omega
    · rw [a1] at na; cases na
  · rcases add_any_inf a c hc c1 with h1 | h1
    · rcases add_any_inf b c hc c1 with h2 | h2
      · rw [h1, h2] at hlt; omega
      · rw [h2] at hq; cases hq
    · rw [h1] at hp; cases hp
  · rw [add_nan_right a c c1] at hp; cases hp

theorem flip_sv (x : Nat) (hx : x < 18446744073709551616) : sv (flipN x) = -sv x ∧ nanB (flipN x) = nanB x := by
  have hr : rg (flipN x) = rg x := by
    rw [flipN_eq x hx]; unfold rg; split <;> omega
  have hl : flipN x < 18446744073709551616 := by rw [flipN_eq x hx]; split <;> omega
  have hs : sgB (flipN x) = !sgB x := by
    cases h : sgB x
    · have := (sgB_false hx).1 h
      rw [Bool.not_false, sgB_true hl, flipN_eq x hx, if_pos this]; omega
    · have := (sgB_true hx).1 h
      rw [Bool.not_true, sgB_false hl, flipN_eq x hx, if_neg (by omega)]; omega
  constructor
  · unfold sv sgn
    rw [hr, hs]
    cases sgB x <;> simp
  · rw [nan_rg, nan_rg, hr]

theorem flip_lt (a b : Nat) (ha : a < 18446744073709551616) (hb : b < 18446744073709551616) : ltB (flipN b) (flipN a) = ltB a b := by
  rw [Bool.eq_iff_iff, lt_iff, lt_iff, (flip_sv a ha).1, (flip_sv b hb).1, (flip_sv a ha).2, (flip_sv b hb).2]
  constructor
  · rintro ⟨h1, h2, h3⟩; exact ⟨h2, h1, by omega⟩
  · rintro ⟨h1, h2, h3⟩; exact ⟨h2, h1, by omega⟩

end Go.Proofs.YtpdiajagdehfkaaDoor
