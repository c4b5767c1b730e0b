/- gristmillref1.digits, of any text: the number whose decimal numeral it is, or none. Conditions: at most 16 digits are asked for. -/
import Derived.Test.YtpdiajagdehfkaaDoorR6
namespace Go.Proofs.YtpdiajagdehfkaaDoor
open Go.RowKit

theorem canon_digits (n : Nat) : ∀ l : List UInt8, l.length = n → l ≠ [] → (∀ c ∈ l, isDig c) → (∀ c r, l = c :: r → c.toNat = 48 → r = []) → l = Lib.decDigits (valF 0 l) ∧ (2 ≤ l.length → 1 ≤ valF 0 l) := by
  induction n with
  | zero => intro l hl hne; exact absurd (List.length_eq_zero_iff.1 hl) hne
  | succ n ih =>
    intro l hl hne hd hz
    obtain ⟨p, d, rfl⟩ : ∃ p d, l = p ++ [d] := ⟨l.dropLast, l.getLast hne, (List.dropLast_concat_getLast hne).symm⟩
    have hdd : 48 ≤ d.toNat ∧ d.toNat ≤ 57 := hd d (by simp)
    have hval : valF 0 (p ++ [d]) = valF 0 p * 10 + (d.toNat - 48) := by rw [valF_append]; rfl
    have hof : UInt8.ofNat (48 + (d.toNat - 48)) = d := by
      apply UInt8.toNat_inj.1
      rw [UInt8.toNat_ofNat']
      omega
    by_cases hp : p = []
    · subst hp
      have e0 : valF 0 ([] : List UInt8) = 0 := rfl
      rw [hval, e0]
      have : Lib.decDigits (0 * 10 + (d.toNat - 48)) = [d] := by
        rw [Nat.zero_mul, Nat.zero_add, Lib.decDigits_one (by omega), hof]
      rw [this]
      exact ⟨rfl, fun h => by simp at h⟩
    · have hz' : ∀ c r, p = c :: r → c.toNat = 48 → r = [] := fun c r e h => by
        have := hz c (r ++ [d]) (by rw [e]; rfl) h
        simp at this
      obtain ⟨i1, i2⟩ := ih p (by simpa using hl) hp (fun c hc => hd c (by simp [hc])) hz'
      have hpos : 1 ≤ valF 0 p := by
        rcases Nat.lt_or_ge p.length 2 with g | g
        · obtain ⟨c, rfl⟩ : ∃ c, p = [c] := by
            cases p with
            | nil => exact absurd rfl hp
            | cons c r => cases r with
              | nil => exact ⟨c, rfl⟩
              | cons _ _ => simp at g; omega
          have hc : 48 ≤ c.toNat ∧ c.toNat ≤ 57 := hd c (by simp)
          have hc0 : c.toNat ≠ 48 := fun h => by
            have := hz c [d] rfl h
            simp at this
          show 1 ≤ 0 * 10 + (c.toNat - 48)
          omega
        · exact i2 g
      rw [hval]
      refine ⟨?_, fun _ => by omega⟩
      rw [Lib.decDigits, dif_neg (by omega), show (valF 0 p * 10 + (d.toNat - 48)) / 10 = valF 0 p by omega, show (valF 0 p * 10 + (d.toNat - 48)) % 10 = d.toNat - 48 by omega, hof, ← i1]

/-- 'digits', of any text. -/
theorem digits_any (s : ByteArray) (most : Nat) (hm : most ≤ 16) : ∃ (n : Nat) (b : Bool), (b = true → s.data.toList = Lib.decDigits n ∧ s.size ≤ most) ∧ (b = false → n = 0 ∧ ∀ u, s.data.toList = Lib.decDigits u → most < s.size) ∧ n < 10000000000000000 ∧
    ∀ w, Calls Tryd.prog 33 #[.string s, .int .i64 (most : Nat)] w fun e w' => e = .returned (.tuple #[.int .i64 (n : Nat), .bool b]) ∧ w = w' := by
  have hsz := Lib.size_eq s
  by_cases h0 : s.size = 0
  · have hl : s.data.toList = [] := List.length_eq_zero_iff.1 (by rw [← hsz]; exact h0)
    refine ⟨0, false, (fun h => by cases h), fun _ => ⟨rfl, fun u hu => ?_⟩, by omega, fun w => dig_empty s _ w (by rw [ByteArray.toList_eq, hl]; rfl)⟩
    rw [hl] at hu
    exact absurd hu.symm (dd_ne u)
  · have hem : s.toList.isEmpty = false := by
      rw [ByteArray.toList_eq]
      cases hl : s.data.toList with
      | nil => rw [hl] at hsz; exact absurd hsz h0
      | cons _ _ => rfl
    by_cases hlong : most < s.size
    · exact ⟨0, false, (fun h => by cases h), fun _ => ⟨rfl, fun u _ => hlong⟩, by omega, fun w => dig_long s _ w hem (by omega)⟩
    · have hpos : 0 < s.size := by omega
      have hget : s.data.toList = s[0] :: s.data.toList.drop 1 := by
        have := List.drop_eq_getElem_cons (l := s.data.toList) (i := 0) (by rw [← hsz]; omega)
        rw [List.drop_zero] at this
        exact this
      by_cases hz : (s[0].toNat : Int) = 48 ∧ 1 < s.size
      · refine ⟨0, false, (fun h => by cases h), fun _ => ⟨rfl, fun u hu => ?_⟩, by omega, fun w => dig_zero s _ w hem (by omega) hpos hz.2 hz.1⟩
        exfalso
        by_cases hu0 : 0 < u
        · obtain ⟨c, r, e1, e2⟩ := (dd_spec u).2.2.2 hu0
          rw [hget, e1] at hu
          have := (List.cons.inj hu).1
          rw [← this] at e2
          omega
        · have : u = 0 := by omega
          subst this
          rw [Lib.decDigits_one (i := 0) (by omega)] at hu
          have := congrArg List.length hu
          rw [← hsz] at this
          simp at this
          omega
      · by_cases hall : s.data.toList.all digB = true
        · have hd : ∀ c ∈ s.data.toList, isDig c := fun c hc => by
            have := List.all_eq_true.1 hall c hc
            unfold digB at this
            have h3 : 48 ≤ c.toNat ∧ c.toNat ≤ 57 := of_decide_eq_true this
            exact h3
          obtain ⟨g1, _⟩ := canon_digits s.data.toList.length s.data.toList rfl (by rw [hget]; simp) hd (fun c r e h => by
            rw [hget] at e
            obtain ⟨rfl, rfl⟩ := List.cons.inj e
            apply List.length_eq_zero_iff.1
            rw [List.length_drop, ← hsz]
            have : ¬ 1 < s.size := fun g => hz ⟨by omega, g⟩
            omega)
          have hlen : (Lib.decDigits (valF 0 s.data.toList)).length ≤ 16 := by rw [← g1, ← hsz]; omega
          have hlt : valF 0 s.data.toList < 10000000000000000 := by
            have := Lib.lt_pow_nDigits (valF 0 s.data.toList)
            rw [Lib.decDigits_length] at hlen
            have h16 : 10 ^ Lib.nDigits (valF 0 s.data.toList) ≤ 10 ^ 16 := Nat.pow_le_pow_right (by omega) hlen
            omega
          refine ⟨valF 0 s.data.toList, true, fun _ => ⟨g1, by omega⟩, (fun h => by cases h), hlt, fun w => ?_⟩
          have := dig_run s most w hem (by omega) hpos (by omega) hz
          rw [digAns_yes _ hd] at this
          exact this
        · refine ⟨0, false, (fun h => by cases h), fun _ => ⟨rfl, fun u hu => ?_⟩, by omega, fun w => ?_⟩
          · exfalso
            apply hall
            rw [hu, List.all_eq_true]
            intro c hc
            have h2 := dd_dig u c hc
            unfold isDig at h2
            simpa [digB] using h2
          · have := dig_run s most w hem (by omega) hpos (by omega) hz
            unfold digAns at this
            rw [if_neg hall] at this
            exact this

end Go.Proofs.YtpdiajagdehfkaaDoor
