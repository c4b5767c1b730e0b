/- Decimal numerals: their digits, their values, and what is read of them. No conditions. -/
import Derived.Lib.ParseIntB
import Derived.Lib.ParseIntBTie
import Derived.Lib.ItoaNum
import Derived.Lib.Bytealg
namespace Go.Proofs.YtcplajplbocieaaDoor

def isDig (c : UInt8) : Prop := 48 ≤ c.toNat ∧ c.toNat ≤ 57
def valF (acc : Nat) : List UInt8 → Nat
  | [] => acc
  | c :: r => valF (acc * 10 + (c.toNat - 48)) r

theorem valF_append (a : Nat) (l r : List UInt8) : valF a (l ++ r) = valF (valF a l) r := by
  induction l generalizing a with
  | nil => rfl
  | cons c l ih => exact ih _
theorem valF_ge (a : Nat) (l : List UInt8) : a ≤ valF a l := by
  induction l generalizing a with
  | nil => exact Nat.le_refl _
  | cons c l ih => exact Nat.le_trans (by omega) (ih _)

theorem dig_toNat (d : Nat) (h : d < 10) : (UInt8.ofNat (48 + d)).toNat = 48 + d := by
  rw [UInt8.toNat_ofNat']; omega

theorem dd_spec (u : Nat) : valF 0 (Lib.decDigits u) = u ∧ (∀ c ∈ Lib.decDigits u, isDig c) ∧ Lib.decDigits u ≠ [] ∧ (0 < u → ∃ c r, Lib.decDigits u = c :: r ∧ c.toNat ≠ 48) := by
  induction u using Nat.strongRecOn with
  | _ u ih =>
    by_cases h : u < 10
    · clear ih
      have hd := dig_toNat u h
      have e := Lib.decDigits_one h
      generalize UInt8.ofNat (48 + u) = c at hd e
      rw [e]
      have p1 : valF 0 [c] = u := by
        show 0 * 10 + (c.toNat - 48) = u
        omega
      have p2 : ∀ d ∈ [c], isDig d := fun d hc => by
        have : d = c := by simpa using hc
        rw [this]; unfold isDig; omega
      have p3 : [c] ≠ ([] : List UInt8) := List.cons_ne_nil _ _
      exact ⟨p1, p2, p3, fun _ => ⟨c, [], rfl, by omega⟩⟩
    · have e : Lib.decDigits u = Lib.decDigits (u / 10) ++ [UInt8.ofNat (48 + u % 10)] := by rw [Lib.decDigits, dif_neg h]
      obtain ⟨h1, h2, h3, h4⟩ := ih (u / 10) (by omega)
      clear ih
      have hd := dig_toNat (u % 10) (by omega)
      generalize UInt8.ofNat (48 + u % 10) = d at hd e
      rw [e]
      have p1 : valF 0 (Lib.decDigits (u / 10) ++ [d]) = u := by
        rw [valF_append, h1]
        show u / 10 * 10 + (d.toNat - 48) = u
        omega
      have p2 : ∀ c ∈ Lib.decDigits (u / 10) ++ [d], isDig c := fun c hc => by
        rcases List.mem_append.1 hc with hc | hc
        · exact h2 c hc
        · have : c = d := by simpa using hc
          rw [this]; unfold isDig; omega
      have p3 : Lib.decDigits (u / 10) ++ [d] ≠ [] := by simp
      have p4 : 0 < u → ∃ c r, Lib.decDigits (u / 10) ++ [d] = c :: r ∧ c.toNat ≠ 48 := fun _ => by
        obtain ⟨c, r, e1, e2⟩ := h4 (by omega)
        exact ⟨c, r ++ [d], by rw [e1]; rfl, e2⟩
      exact ⟨p1, p2, p3, p4⟩

theorem dd_val (u : Nat) : valF 0 (Lib.decDigits u) = u := (dd_spec u).1
theorem dd_dig (u : Nat) : ∀ c ∈ Lib.decDigits u, isDig c := (dd_spec u).2.1
theorem dd_ne (u : Nat) : Lib.decDigits u ≠ [] := (dd_spec u).2.2.1
theorem dd_cons (u : Nat) : ∃ c r, Lib.decDigits u = c :: r ∧ isDig c := by
  cases h : Lib.decDigits u with
  | nil => exact absurd h (dd_ne u)
  | cons c r => exact ⟨c, r, rfl, dd_dig u c (by rw [h]; simp)⟩
/-- No 0 ahead of others. -/
theorem dd_head (u : Nat) (c : UInt8) (r : List UInt8) (h : Lib.decDigits u = c :: r) (hc : c.toNat = 48) : r = [] := by
  rcases Nat.eq_zero_or_pos u with h0 | h0
  · subst h0
    rw [Lib.decDigits_one (by omega)] at h
    exact (List.cons.inj h).2.symm
  · obtain ⟨d, q, e1, e2⟩ := (dd_spec u).2.2.2 h0
    rw [e1] at h
    exact absurd hc (by rw [← (List.cons.inj h).1]; exact e2)
theorem dd_inj {u v : Nat} (h : Lib.decDigits u = Lib.decDigits v) : u = v := by rw [← dd_val u, ← dd_val v, h]

theorem dd_ne_minus (u : Nat) (r : List UInt8) : Lib.decDigits u ≠ 45 :: r := fun e => by
  obtain ⟨c, q, e1, e2⟩ := dd_cons u
  rw [e1] at e
  have : c = 45 := (List.cons.inj e).1
  subst this
  exact absurd e2 (by unfold isDig; decide)

theorem itoa_lt (n : Int) (h : n < 0) : Lib.itoa n = 45 :: Lib.decDigits n.natAbs := by unfold Lib.itoa; rw [if_pos h]
theorem itoa_ge (n : Int) (h : 0 ≤ n) : Lib.itoa n = Lib.decDigits n.toNat := by unfold Lib.itoa; rw [if_neg (by omega)]
theorem itoa_nil (n : Int) : Lib.itoa n ≠ [] := by
  unfold Lib.itoa
  split
  · exact List.cons_ne_nil _ _
  · exact dd_ne _

theorem itoa_inj {x y : Int} (h : Lib.itoa x = Lib.itoa y) : x = y := by
  unfold Lib.itoa at h
  split at h
  · split at h
    · have := dd_inj (List.cons.inj h).2
      omega
    · exact absurd h.symm (dd_ne_minus _ _)
  · split at h
    · exact absurd h (dd_ne_minus _ _)
    · have := dd_inj h
      omega

theorem nDigits_bd (k u : Nat) (h : u < 10 ^ (k + 1)) : Lib.nDigits u ≤ k + 1 := by
  induction k generalizing u with
  | zero => rw [Lib.nDigits, dif_pos (by simpa using h)]; omega
  | succ k ih =>
    rw [Lib.nDigits]
    split
    · omega
    · have : u / 10 < 10 ^ (k + 1) := by
        rw [Nat.div_lt_iff_lt_mul (by omega)]
        rw [Nat.pow_succ] at h
        exact h
      have := ih _ this
      omega

theorem dd_len (u : Nat) (h : u < 10000000000000000000) : (Lib.decDigits u).length ≤ 19 := by
  rw [Lib.decDigits_length]
  exact nDigits_bd 18 u (by simpa using h)
theorem itoa_len (n : Int) (h0 : -9223372036854775808 ≤ n) (h1 : n ≤ 9223372036854775807) : (Lib.itoa n).length ≤ 20 := by
  unfold Lib.itoa
  split
  · have := dd_len n.natAbs (by omega)
    simp; omega
  · have := dd_len n.toNat (by omega)
    omega

theorem canon_digits (n : Nat) : ∀ l : List UInt8, l.length = n → l ≠ [] → (∀ c ∈ l, isDig c) → (∀ c r, l = c :: r → c.toNat = 48 → r = []) → l = Lib.decDigits (valF 0 l) ∧ (2 ≤ l.length → 1 ≤ valF 0 l) := by
  induction n with
  | zero => intro l hl hne; exact absurd (List.length_eq_zero_iff.1 hl) hne
  | succ n ih =>
    intro l hl hne hd hz
    obtain ⟨p, d, rfl⟩ : ∃ p d, l = p ++ [d] := ⟨l.dropLast, l.getLast hne, (List.dropLast_concat_getLast hne).symm⟩
    have hdd : 48 ≤ d.toNat ∧ d.toNat ≤ 57 := hd d (by simp)
    have hval : valF 0 (p ++ [d]) = valF 0 p * 10 + (d.toNat - 48) := by rw [valF_append]; rfl
    have hof : UInt8.ofNat (48 + (d.toNat - 48)) = d := by
      apply UInt8.toNat_inj.1
      rw [UInt8.toNat_ofNat']
      omega
    by_cases hp : p = []
    · subst hp
      have e0 : valF 0 ([] : List UInt8) = 0 := rfl
      rw [hval, e0]
      have : Lib.decDigits (0 * 10 + (d.toNat - 48)) = [d] := by
        rw [Nat.zero_mul, Nat.zero_add, Lib.decDigits_one (by omega), hof]
      rw [this]
      exact ⟨rfl, fun h => by simp at h⟩
    · have hz' : ∀ c r, p = c :: r → c.toNat = 48 → r = [] := fun c r e h => by
        have := hz c (r ++ [d]) (by rw [e]; rfl) h
        simp at this
      obtain ⟨i1, i2⟩ := ih p (by simpa using hl) hp (fun c hc => hd c (by simp [hc])) hz'
      have hpos : 1 ≤ valF 0 p := by
        rcases Nat.lt_or_ge p.length 2 with g | g
        · obtain ⟨c, rfl⟩ : ∃ c, p = [c] := by
            cases p with
            | nil => exact absurd rfl hp
            | cons c r => cases r with
              | nil => exact ⟨c, rfl⟩
              | cons _ _ => simp at g; omega
          have hc : 48 ≤ c.toNat ∧ c.toNat ≤ 57 := hd c (by simp)
          have hc0 : c.toNat ≠ 48 := fun h => by
            have := hz c [d] rfl h
            simp at this
          show 1 ≤ 0 * 10 + (c.toNat - 48)
          omega
        · exact i2 g
      rw [hval]
      refine ⟨?_, fun _ => by omega⟩
      rw [Lib.decDigits, dif_neg (by omega), show (valF 0 p * 10 + (d.toNat - 48)) / 10 = valF 0 p by omega, show (valF 0 p * 10 + (d.toNat - 48)) % 10 = d.toNat - 48 by omega, hof, ← i1]

theorem pum_digits (M : Nat) (l : List UInt8) (hl : ∀ c ∈ l, isDig c) (acc : Nat) (h : valF acc l ≤ M) (h2 : valF acc l < 18446744073709551615) : Lib.parseUintM M acc l = .ok (valF acc l) := by
  induction l generalizing acc with
  | nil => rfl
  | cons c l ih =>
    have hc : 48 ≤ c.toNat ∧ c.toNat ≤ 57 := hl c (by simp)
    have h1 : valF (acc * 10 + (c.toNat - 48)) l ≤ M := h
    have h3 : valF (acc * 10 + (c.toNat - 48)) l < 18446744073709551615 := h2
    have h4 := valF_ge (acc * 10 + (c.toNat - 48)) l
    unfold Lib.parseUintM
    rw [if_pos hc, if_neg (by omega), if_neg (by omega)]
    exact ih (fun d hd => hl d (by simp [hd])) _ h1 h3

theorem pub64 (u : Nat) (hu : u ≤ 9223372036854775808) : Lib.parseUintB 64 (Lib.decDigits u) = .ok u := by
  have e : (2 : Nat) ^ 64 - 1 = 18446744073709551615 := by decide
  unfold Lib.parseUintB
  rw [if_neg (dd_ne u), e, pum_digits _ _ (dd_dig u) 0 (by rw [dd_val]; omega) (by rw [dd_val]; omega), dd_val]

/-- A number's numeral is read as it. -/
theorem pib64 (E : Int) (h0 : -9223372036854775808 ≤ E) (h1 : E ≤ 9223372036854775807) : Lib.parseIntB 64 (Lib.itoa E) = .ok E := by
  have e : (2 : Nat) ^ (64 - 1) = 9223372036854775808 := by decide
  unfold Lib.itoa
  split
  · rename_i hn
    unfold Lib.parseIntB
    simp only
    rw [if_pos (by right; decide), pub64 E.natAbs (by omega)]
    simp only [e]
    rw [if_neg (by simp), if_neg (by omega), if_pos (by decide)]
    congr 1
    omega
  · rename_i hn
    obtain ⟨c, r, e1, e2⟩ := dd_cons E.toNat
    have hp := pub64 E.toNat (by omega)
    rw [e1] at hp
    rw [e1]
    unfold isDig at e2
    unfold Lib.parseIntB
    simp only
    rw [if_neg (by omega), hp]
    simp only [e]
    rw [if_neg (by omega), if_neg (by omega), if_neg (by omega)]
    congr 1
    omega
theorem pib64_rg (l : List UInt8) (v : Int) (h : Lib.parseIntB 64 l = .ok v) : -9223372036854775808 ≤ v ∧ v ≤ 9223372036854775807 := by
  have e : (2 : Nat) ^ (64 - 1) = 9223372036854775808 := by decide
  have := Lib.parseIntB_bounds h
  rw [e] at this
  omega

/-- Whose numeral a text is: of 64 bits. -/
def NumIs (l : List UInt8) (n : Int) : Prop := Lib.itoa n = l ∧ -9223372036854775808 ≤ n ∧ n ≤ 9223372036854775807
theorem NumIs.one {l : List UInt8} {n m : Int} (h : NumIs l n) (g : NumIs l m) : n = m := itoa_inj (h.1.trans g.1.symm)
theorem NumIs.itoa (n : Int) (h0 : -9223372036854775808 ≤ n) (h1 : n ≤ 9223372036854775807) : NumIs (Lib.itoa n) n := ⟨rfl, h0, h1⟩
end Go.Proofs.YtcplajplbocieaaDoor
