/- Txt of stage 1: floats. -/
import Derived.Lib.ParseIntB
import Derived.Lib.Bytealg
import Derived.Test.YtdmgaaaomleojaaGreatDoorFlW14
namespace Go.Proofs.YtdmgaaaomleojaaGreatDoor.Fl
open Ieee
def isDig (c : UInt8) : Prop := 48 ≤ c.toNat ∧ c.toNat ≤ 57
def valF (acc : Nat) : List UInt8 → Nat
  | [] => acc
  | c :: r => valF (acc * 10 + (c.toNat - 48)) r
theorem valF_append (a : Nat) (l r : List UInt8) : valF a (l ++ r) = valF (valF a l) r := by
  induction l generalizing a with
  | nil => rfl
  | cons c l ih => exact ih _
theorem valF_ge (a : Nat) (l : List UInt8) : a ≤ valF a l := by
  induction l generalizing a with
  | nil => exact Nat.le_refl _
  | cons c l ih => exact Nat.le_trans (by omega) (ih _)
theorem dig_toNat (d : Nat) (h : d < 10) : (UInt8.ofNat (48 + d)).toNat = 48 + d := by
  rw [UInt8.toNat_ofNat']; omega
theorem dd_spec (u : Nat) : valF 0 (Lib.decDigits u) = u ∧ (∀ c ∈ Lib.decDigits u, isDig c) ∧ Lib.decDigits u ≠ [] ∧ (0 < u → ∃ c r, Lib.decDigits u = c :: r ∧ c.toNat ≠ 48) := by
  induction u using Nat.strongRecOn with
  | _ u ih =>
    by_cases h : u < 10
    · clear ih
      have hd := dig_toNat u h
      have e := Lib.decDigits_one h
      generalize UInt8.ofNat (48 + u) = c at hd e
      rw [e]
      have p1 : valF 0 [c] = u := by
        show 0 * 10 + (c.toNat - 48) = u
        omega
      have p2 : ∀ d ∈ [c], isDig d := fun d hc => by
        have : d = c := by simpa using hc
        rw [this]; unfold isDig; omega
      have p3 : [c] ≠ ([] : List UInt8) := List.cons_ne_nil _ _
      exact ⟨p1, p2, p3, fun _ => ⟨c, [], rfl, by omega⟩⟩
    · have e : Lib.decDigits u = Lib.decDigits (u / 10) ++ [UInt8.ofNat (48 + u % 10)] := by rw [Lib.decDigits, dif_neg h]
      obtain ⟨h1, h2, h3, h4⟩ := ih (u / 10) (by omega)
      clear ih
      have hd := dig_toNat (u % 10) (by omega)
      generalize UInt8.ofNat (48 + u % 10) = d at hd e
      rw [e]
      have p1 : valF 0 (Lib.decDigits (u / 10) ++ [d]) = u := by
        rw [valF_append, h1]
        show u / 10 * 10 + (d.toNat - 48) = u
        omega
      have p2 : ∀ c ∈ Lib.decDigits (u / 10) ++ [d], isDig c := fun c hc => by
        rcases List.mem_append.1 hc with hc | hc
        · exact h2 c hc
        · have : c = d := by simpa using hc
          rw [this]; unfold isDig; omega
      have p3 : Lib.decDigits (u / 10) ++ [d] ≠ [] := by simp
      have p4 : 0 < u → ∃ c r, Lib.decDigits (u / 10) ++ [d] = c :: r ∧ c.toNat ≠ 48 := fun _ => by
        obtain ⟨c, r, e1, e2⟩ := h4 (by omega)
        exact ⟨c, r ++ [d], by rw [e1]; rfl, e2⟩
      exact ⟨p1, p2, p3, p4⟩
theorem dd_val (u : Nat) : valF 0 (Lib.decDigits u) = u := (dd_spec u).1
theorem dd_dig (u : Nat) : ∀ c ∈ Lib.decDigits u, isDig c := (dd_spec u).2.1
theorem dd_ne (u : Nat) : Lib.decDigits u ≠ [] := (dd_spec u).2.2.1
theorem dd_cons (u : Nat) : ∃ c r, Lib.decDigits u = c :: r ∧ isDig c := by
  cases h : Lib.decDigits u with
  | nil => exact absurd h (dd_ne u)
  | cons c r => exact ⟨c, r, rfl, dd_dig u c (by rw [h]; simp)⟩
theorem dd_inj {u v : Nat} (h : Lib.decDigits u = Lib.decDigits v) : u = v := by rw [← dd_val u, ← dd_val v, h]
/-- Digits, then a byte that is none: parted in one way. -/
theorem split_inj (p q r t : List UInt8) (hp : ∀ c ∈ p, c ≠ 112) (hq : ∀ c ∈ q, c ≠ 112) (h : p ++ 112 :: r = q ++ 112 :: t) : p = q ∧ r = t := by
  induction p generalizing q with
  | nil =>
    cases q with
    | nil => simp at h; exact ⟨rfl, h⟩
    | cons d q => simp at h; exact absurd h.1.symm (hq d (by simp))
  | cons c p ih =>
    cases q with
    | nil => simp at h; exact absurd h.1 (hp c (by simp))
    | cons d q =>
      simp at h
      obtain ⟨h1, h2⟩ := ih q (fun c hc => hp c (by simp [hc])) (fun c hc => hq c (by simp [hc])) h.2
      exact ⟨by rw [h.1, h1], h2⟩
theorem dig_ne (u : Nat) : ∀ c ∈ Lib.decDigits u, c ≠ 112 := fun c hc e => by
  have := dd_dig u c hc
  subst e
  unfold isDig at this
  exact absurd this (by decide)
theorem itoa_inj {x y : Int} (h : Lib.itoa x = Lib.itoa y) : x = y := by
  unfold Lib.itoa at h
  have hne : ∀ u v, (45 : UInt8) :: Lib.decDigits u ≠ Lib.decDigits v := fun u v e => by
    obtain ⟨c, r, e1, e2⟩ := dd_cons v
    rw [e1] at e
    have : (45 : UInt8) = c := by simpa using (List.cons.inj e).1
    subst this
    exact absurd e2 (by unfold isDig; decide)
  split at h
  · split at h
    · have := dd_inj (List.cons.inj h).2
      omega
    · exact absurd h (hne _ _)
  · split at h
    · exact absurd h.symm (hne _ _)
    · have := dd_inj h
      omega
/-- THE VALUE of a finite word is its odd number times its power of two. -/
theorem val_odd (a : Nat) (h : rg a < 9218868437227405312) : ∃ k : Nat, oddE a + 1074 = k ∧ V (rg a) = oddM a * 2 ^ k := by
  have hmag : V (rg a) = magOf a * 2 ^ (expOf a + 1074).toNat ∧ -1074 ≤ expOf a := by
    unfold magOf expOf V
    unfold rg at *
    by_cases hE : a / 4503599627370496 % 2048 = 0
    · simp only [if_pos hE]
      rw [if_pos (by omega), show ((-1074 : Int) + 1074).toNat = 0 by omega, Nat.pow_zero, Nat.mul_one]
      exact ⟨by omega, by omega⟩
    · simp only [if_neg hE]
      rw [if_neg (by omega), show (((a / 4503599627370496 % 2048 : Nat) : Int) - 1075 + 1074).toNat = a % 9223372036854775808 / 4503599627370496 - 1 by omega]
      refine ⟨?_, by omega⟩
      congr 1
      omega
  obtain ⟨h1, h2⟩ := hmag
  unfold oddE oddM
  by_cases h0 : magOf a = 0
  · rw [if_pos h0, if_pos h0]
    obtain ⟨k, hk⟩ : ∃ k : Nat, (0 : Int) + 1074 = k := ⟨1074, rfl⟩
    exact ⟨k, hk, by rw [h1, h0, Nat.zero_mul, Nat.zero_mul]⟩
  · rw [if_neg h0, if_neg h0]
    have hlt : magOf a < 2 ^ 64 := Nat.lt_trans (magOf_lt a) (by decide)
    obtain ⟨q, hq, hz⟩ := Lib.ctzFrom_spec 64 (magOf a) (by omega) hlt
    have hc : Lib.ctz 64 (magOf a) = Lib.ctzFrom 64 (magOf a) := by unfold Lib.ctz; rw [if_neg h0]
    rw [hc]
    generalize Lib.ctzFrom 64 (magOf a) = z at *
    refine ⟨(expOf a + 1074).toNat + z, by omega, ?_⟩
    have hp := Nat.two_pow_pos z
    rw [h1, hq, Nat.mul_div_cancel_left _ hp, Nat.pow_add, Nat.mul_comm (2 ^ z), Nat.mul_assoc]
    congr 1
    exact Nat.mul_comm _ _
/-- A word's sign and rung. -/
theorem word_ext (a b : Nat) (ha : a < 18446744073709551616) (hb : b < 18446744073709551616) (h1 : sgB a = sgB b) (h2 : rg a = rg b) : a = b := by
  rw [← word_sgB a ha, ← word_sgB b hb, h1, h2]
/-- A finite word's text. -/
def finL (a : Nat) : List UInt8 := (if sgB a then [45] else []) ++ (Lib.decDigits (oddM a) ++ 112 :: Lib.itoa (oddE a))
theorem textL_fin (a : Nat) (h : rg a < 9218868437227405312) : textL a = finL a := by
  unfold textL
  have hn : nanB a = false := by rw [nan_rg, decide_eq_false_iff_not]; omega
  rw [hn]
  simp only [Bool.false_eq_true, if_false]
  rw [if_neg (by unfold rg at h; omega), if_neg (by unfold rg at h; omega)]
  rfl
theorem fin_inj (a b : Nat) (ha : a < 18446744073709551616) (hb : b < 18446744073709551616) (h1 : rg a < 9218868437227405312) (h2 : rg b < 9218868437227405312) (h : finL a = finL b) : a = b := by
  unfold finL at h
  have hne : ∀ u v (r t : List UInt8), (45 : UInt8) :: (Lib.decDigits u ++ r) ≠ Lib.decDigits v ++ t := fun u v r t e => by
    obtain ⟨c, q, e1, e2⟩ := dd_cons v
    rw [e1, List.cons_append] at e
    have : (45 : UInt8) = c := (List.cons.inj e).1
    subst this
    exact absurd e2 (by unfold isDig; decide)
  have hs : sgB a = sgB b ∧ Lib.decDigits (oddM a) ++ 112 :: Lib.itoa (oddE a) = Lib.decDigits (oddM b) ++ 112 :: Lib.itoa (oddE b) := by
    cases hsa : sgB a <;> cases hsb : sgB b <;> rw [hsa, hsb] at h <;> simp only [Bool.false_eq_true, if_false, if_true, List.nil_append, List.cons_append] at h
    · exact ⟨rfl, h⟩
    · exact absurd h.symm (hne _ _ _ _)
    · exact absurd h (hne _ _ _ _)
    · exact ⟨rfl, (List.cons.inj h).2⟩
  obtain ⟨g1, g2⟩ := split_inj _ _ _ _ (dig_ne _) (dig_ne _) hs.2
  have hM := dd_inj g1
  have hE := itoa_inj g2
  obtain ⟨k, k1, v1⟩ := val_odd a h1
  obtain ⟨l, l1, v2⟩ := val_odd b h2
  have : k = l := by omega
  subst this
  rw [hM, ← v2] at v1
  exact word_ext a b ha hb hs.1 (V_inj v1)
theorem fin_head (a : Nat) : ∃ c r, finL a = c :: r ∧ (isDig c ∨ (c = 45 ∧ ∃ d t, r = d :: t ∧ isDig d)) := by
  unfold finL
  obtain ⟨c, q, e1, e2⟩ := dd_cons (oddM a)
  cases sgB a
  · exact ⟨c, q ++ 112 :: Lib.itoa (oddE a), by rw [e1]; rfl, Or.inl e2⟩
  · exact ⟨45, c :: q ++ 112 :: Lib.itoa (oddE a), by rw [e1]; rfl, Or.inr ⟨rfl, c, _, rfl, e2⟩⟩
theorem fin_not (a : Nat) (l : List UInt8) (hl : l = [110, 97, 110] ∨ l = [105, 110, 102] ∨ l = [45, 105, 110, 102]) : finL a ≠ l := by
  obtain ⟨c, r, e, h⟩ := fin_head a
  rw [e]
  intro e2
  rcases hl with rfl | rfl | rfl
  · obtain ⟨rfl, _⟩ := List.cons.inj e2
    rcases h with h | h
    · exact absurd h (by unfold isDig; decide)
    · exact absurd h.1 (by decide)
  · obtain ⟨rfl, _⟩ := List.cons.inj e2
    rcases h with h | h
    · exact absurd h (by unfold isDig; decide)
    · exact absurd h.1 (by decide)
  · obtain ⟨rfl, rfl⟩ := List.cons.inj e2
    rcases h with h | ⟨_, d, t, e3, h⟩
    · exact absurd h (by unfold isDig; decide)
    · obtain ⟨rfl, _⟩ := List.cons.inj e3
      exact absurd h (by unfold isDig; decide)
/-- The four kinds of text. -/
theorem textL_cases (a : Nat) (ha : a < 18446744073709551616) :
    (nanB a = true ∧ textL a = [110, 97, 110]) ∨ (a = 9218868437227405312 ∧ textL a = [105, 110, 102]) ∨ (a = 18442240474082181120 ∧ textL a = [45, 105, 110, 102]) ∨ (rg a < 9218868437227405312 ∧ nanB a = false ∧ textL a = finL a) := by
  rcases three a with ⟨h, hn⟩ | ⟨h, hn⟩ | ⟨h, hn⟩
  · exact Or.inr (Or.inr (Or.inr ⟨h, hn, textL_fin a h⟩))
  · unfold rg at h
    have : a = 9218868437227405312 ∨ a = 18442240474082181120 := by omega
    rcases this with rfl | rfl
    · exact Or.inr (Or.inl ⟨rfl, by decide +kernel⟩)
    · exact Or.inr (Or.inr (Or.inl ⟨rfl, by decide +kernel⟩))
  · exact Or.inl ⟨hn, by unfold textL; rw [hn]; rfl⟩
/-- UNLIKE ONES HAVE UNLIKE TEXTS. -/
theorem textL_inj (a b : Nat) (ha : a < 18446744073709551616) (hb : b < 18446744073709551616) : textL a = textL b ↔ canonN a = canonN b := by
  constructor
  · intro h
    rcases textL_cases a ha with ⟨h1, e1⟩ | ⟨h1, e1⟩ | ⟨h1, e1⟩ | ⟨h1, n1, e1⟩ <;> rcases textL_cases b hb with ⟨h2, e2⟩ | ⟨h2, e2⟩ | ⟨h2, e2⟩ | ⟨h2, n2, e2⟩ <;> rw [e1, e2] at h
    · rw [canon_of_nan h1, canon_of_nan h2]
    · exact absurd h (by decide)
    · exact absurd h (by decide)
    · exact absurd h.symm (fin_not b _ (by simp))
    · exact absurd h (by decide)
    · rw [h1, h2]
    · exact absurd h (by decide)
    · exact absurd h.symm (fin_not b _ (by simp))
    · exact absurd h (by decide)
    · exact absurd h (by decide)
    · rw [h1, h2]
    · exact absurd h.symm (fin_not b _ (by simp))
    · exact absurd h (fin_not a _ (by simp))
    · exact absurd h (fin_not a _ (by simp))
    · exact absurd h (fin_not a _ (by simp))
    · rw [fin_inj a b ha hb h1 h2 h]
  · intro h
    have key : ∀ x, textL (canonN x) = textL x := fun x => by
      cases hx : nanB x
      · rw [canon_of_num hx]
      · rw [canon_of_nan hx]
        unfold textL
        rw [hx, show nanB 9221120237041090560 = true by decide, if_pos rfl, if_pos rfl]
    rw [← key a, ← key b, h]
end Go.Proofs.YtdmgaaaomleojaaGreatDoor.Fl
