/- Gs of stage 1: floats. -/
import Derived.Test.YtdmgaaaomleojaaGreatDoorFlW17
namespace Go.Proofs.YtdmgaaaomleojaaGreatDoor.Fl
open Go.RowKit Ieee
theorem pum_digits (M : Nat) (hM : M < 18446744073709551615) (l : List UInt8) (hl : ∀ c ∈ l, isDig c) (acc : Nat) (h : valF acc l ≤ M) : Lib.parseUintM M acc l = .ok (valF acc l) := by
  induction l generalizing acc with
  | nil => rfl
  | cons c l ih =>
    have hc : 48 ≤ c.toNat ∧ c.toNat ≤ 57 := hl c (by simp)
    have h1 : valF (acc * 10 + (c.toNat - 48)) l ≤ M := h
    have h2 := valF_ge (acc * 10 + (c.toNat - 48)) l
    unfold Lib.parseUintM
    rw [if_pos hc, if_neg (by omega), if_neg (by omega)]
    exact ih (fun d hd => hl d (by simp [hd])) _ h1
theorem pub_digits (B u : Nat) (hB : 2 ^ B - 1 < 18446744073709551615) (hu : u ≤ 2 ^ B - 1) : Lib.parseUintB B (Lib.decDigits u) = .ok u := by
  unfold Lib.parseUintB
  rw [if_neg (dd_ne u), pum_digits _ hB _ (dd_dig u) 0 (by rw [dd_val]; exact hu), dd_val]
theorem pum_le (M : Nat) (l : List UInt8) (acc m : Nat) (h : Lib.parseUintM M acc l = .ok m) (ha : acc ≤ M) : m ≤ M := by
  induction l generalizing acc with
  | nil => injection h with h; omega
  | cons c l ih =>
    unfold Lib.parseUintM at h
    split at h
    · split at h
      · cases h
      · split at h
        · cases h
        · exact ih _ h (by omega)
    · cases h
theorem pub_le (B : Nat) (l : List UInt8) (m : Nat) (h : Lib.parseUintB B l = .ok m) : m ≤ 2 ^ B - 1 := by
  unfold Lib.parseUintB at h
  split at h
  · cases h
  · exact pum_le _ _ _ _ h (Nat.zero_le _)
theorem pib_le (l : List UInt8) (v : Int) (h : Lib.parseIntB 16 l = .ok v) : -32768 ≤ v ∧ v ≤ 32767 := by
  unfold Lib.parseIntB at h
  cases l with
  | nil => cases h
  | cons c r =>
    simp only at h
    split at h
    · cases h
    · cases h
    · rename_i u hu
      have := pub_le _ _ _ hu
      split at h
      · cases h
      · split at h
        · cases h
        · injection h with h
          subst h
          rename_i g1 g2
          simp only [Nat.reduceSub, Nat.reducePow] at *
          split <;> omega
theorem pib_itoa (E : Int) (h : -32768 ≤ E ∧ E ≤ 32767) : Lib.parseIntB 16 (Lib.itoa E) = .ok E := by
  unfold Lib.itoa
  split
  · rename_i hn
    unfold Lib.parseIntB
    simp only
    rw [if_pos (by right; decide), pub_digits 16 E.natAbs (by decide) (by simp only [Nat.reducePow, Nat.reduceSub]; omega)]
    simp only [Nat.reduceSub, Nat.reducePow]
    rw [if_neg (by simp), if_neg (by omega), if_pos (by decide)]
    congr 1
    omega
  · rename_i hn
    obtain ⟨c, r, e1, e2⟩ := dd_cons E.toNat
    have hp := pub_digits 16 E.toNat (by decide) (by simp only [Nat.reducePow, Nat.reduceSub]; omega)
    rw [e1] at hp
    rw [e1]
    unfold isDig at e2
    unfold Lib.parseIntB
    simp only
    rw [if_neg (by omega), hp]
    simp only [Nat.reduceSub, Nat.reducePow]
    rw [if_neg (by omega), if_neg (by omega), if_neg (by omega)]
    congr 1
    omega
theorem nDigits_bd (k u : Nat) (h : u < 10 ^ (k + 1)) : Lib.nDigits u ≤ k + 1 := by
  induction k generalizing u with
  | zero => rw [Lib.nDigits, dif_pos (by simpa using h)]; omega
  | succ k ih =>
    rw [Lib.nDigits]
    split
    · omega
    · have : u / 10 < 10 ^ (k + 1) := by
        rw [Nat.div_lt_iff_lt_mul (by omega)]
        rw [Nat.pow_succ] at h
        exact h
      have := ih _ this
      omega
theorem fin_len (a : Nat) : (finL a).length ≤ 23 := by
  have h1 := nDigits_bd 15 (oddM a) (Nat.lt_trans (oddM_lt a) (by decide))
  have h2 := oddE_bd a
  have h3 : (Lib.itoa (oddE a)).length ≤ 5 := by
    unfold Lib.itoa
    split
    · rw [List.length_cons, Lib.decDigits_length]
      have := nDigits_bd 3 (oddE a).natAbs (by simp only [Nat.reduceAdd, Nat.reducePow]; omega)
      omega
    · rw [Lib.decDigits_length]
      have := nDigits_bd 3 (oddE a).toNat (by simp only [Nat.reduceAdd, Nat.reducePow]; omega)
      omega
  unfold finL
  rw [List.length_append, List.length_append, List.length_cons, Lib.decDigits_length]
  have h4 : (if sgB a = true then [(45 : UInt8)] else []).length ≤ 1 := by split <;> simp
  omega
/-- Of the texts that a float has, a plain one is a finite float's. -/
theorem plain_fin (a : Nat) (ha : a < 18446744073709551616) (l : List UInt8) (h1 : (l == [110, 97, 110]) = false) (h2 : (l == [105, 110, 102]) = false) (h3 : (l == [45, 105, 110, 102]) = false) (h : l = textL a) :
    rg a < 9218868437227405312 ∧ nanB a = false ∧ l = finL a := by
  rcases textL_cases a ha with ⟨_, e⟩ | ⟨_, e⟩ | ⟨_, e⟩ | ⟨g1, g2, e⟩
  · rw [h, e] at h1; exact absurd h1 (by decide)
  · rw [h, e] at h2; exact absurd h2 (by decide)
  · rw [h, e] at h3; exact absurd h3 (by decide)
  · exact ⟨g1, g2, h.trans e⟩
theorem trim_minus (l : List UInt8) : Lib.trimPrefix l [45] = (if Lib.hasPrefix l [45] then l.drop 1 else l) := rfl
theorem has_minus (c : UInt8) (l : List UInt8) : Lib.hasPrefix (c :: l) [45] = (45 == c) := by
  simp [Lib.hasPrefix, List.isPrefixOf]
/-- A finite float's text behind its sign. -/
theorem fin_trim (a : Nat) : Lib.hasPrefix (finL a) [45] = sgB a ∧ Lib.trimPrefix (finL a) [45] = Lib.decDigits (oddM a) ++ 112 :: Lib.itoa (oddE a) := by
  rw [trim_minus]
  unfold finL
  cases hs : sgB a
  · simp only [Bool.false_eq_true, if_false, List.nil_append]
    obtain ⟨c, r, e1, e2⟩ := dd_cons (oddM a)
    have : Lib.hasPrefix (Lib.decDigits (oddM a) ++ 112 :: Lib.itoa (oddE a)) [45] = false := by
      rw [e1, List.cons_append, has_minus]
      rw [Bool.eq_false_iff]
      intro e
      rw [beq_iff_eq] at e
      subst e
      exact absurd e2 (by unfold isDig; decide)
    rw [this]
    exact ⟨rfl, rfl⟩
  · simp only [if_true, List.cons_append, List.nil_append]
    have : Lib.hasPrefix (45 :: (Lib.decDigits (oddM a) ++ 112 :: Lib.itoa (oddE a))) [45] = true := by
      rw [has_minus]; rfl
    rw [this]
    exact ⟨rfl, rfl⟩
theorem trim_len (l : List UInt8) : (Lib.trimPrefix l [45]).length ≤ l.length := by
  rw [trim_minus]
  split
  · rw [List.length_drop]; omega
  · exact Nat.le_refl _
theorem flip_rg (a : Nat) (ha : a < 18446744073709551616) : (if sgB a then flipN (rg a) else rg a) = a := by
  have hr : rg a < 18446744073709551616 := by unfold rg; omega
  cases hs : sgB a
  · have := (sgB_false ha).1 hs
    simp only [Bool.false_eq_true, if_false]
    unfold rg; omega
  · have := (sgB_true ha).1 hs
    simp only [if_true]
    rw [flipN_eq _ hr, if_pos (by unfold rg; omega)]
    unfold rg; omega
/-- FLO.GUESS, of any text. -/
theorem guess_any (s : ByteArray) (w : World) (he : Errs w) :
    ∃ v b, v < 18446744073709551616 ∧ (∀ a, a < 18446744073709551616 → s.data.toList = textL a → v = canonN a ∧ b = true) ∧ Calls Tryz.prog 70 #[.string s] w (Ret2 (.int .u64 (v : Nat)) (.bool b) w) := by
  have hl : s.toList = s.data.toList := ByteArray.toList_eq s
  by_cases h1 : (s.toList == [110, 97, 110]) = true
  · refine ⟨9221120237041090560, true, by omega, fun a ha h => ⟨?_, rfl⟩, guess_nan s w h1⟩
    rw [hl, beq_iff_eq] at h1
    have : textL 9221120237041090560 = textL a := by rw [← h, h1]; decide +kernel
    have := (textL_inj _ _ (by omega) ha).1 this
    rw [← this]; decide
  · have h1 := Bool.eq_false_iff.2 h1
    by_cases h2 : (s.toList == [105, 110, 102]) = true
    · refine ⟨9218868437227405312, true, by omega, fun a ha h => ⟨?_, rfl⟩, guess_inf s w h1 h2⟩
      rw [hl, beq_iff_eq] at h2
      have : textL 9218868437227405312 = textL a := by rw [← h, h2]; decide +kernel
      have := (textL_inj _ _ (by omega) ha).1 this
      rw [← this]; decide
    · have h2 := Bool.eq_false_iff.2 h2
      by_cases h3 : (s.toList == [45, 105, 110, 102]) = true
      · refine ⟨18442240474082181120, true, by omega, fun a ha h => ⟨?_, rfl⟩, guess_minus s w h1 h2 h3⟩
        rw [hl, beq_iff_eq] at h3
        have : textL 18442240474082181120 = textL a := by rw [← h, h3]; decide +kernel
        have := (textL_inj _ _ (by omega) ha).1 this
        rw [← this]; decide
      · have h3 := Bool.eq_false_iff.2 h3
        have hp : Plain s := ⟨h1, h2, h3⟩
        have hfin : ∀ a, a < 18446744073709551616 → s.data.toList = textL a → rg a < 9218868437227405312 ∧ nanB a = false ∧ s.data.toList = finL a := fun a ha h =>
          plain_fin a ha _ (by rw [← hl]; exact h1) (by rw [← hl]; exact h2) (by rw [← hl]; exact h3) h
        have hsz := Lib.size_eq s
        by_cases h23 : 23 < s.size
        · refine ⟨0, false, by omega, fun a ha h => ?_, guess_long s w hp h23⟩
          obtain ⟨_, _, e⟩ := hfin a ha h
          have := fin_len a
          rw [hsz, e] at h23
          omega
        · have h23 : s.size ≤ 23 := by omega
          have c1 := fun w => Tryz.strings_CutPrefix s ⟨#[45]⟩ w
          have ht : (⟨(Lib.trimPrefix s.data.toList [45]).toArray⟩ : ByteArray).size ≤ 23 := by
            rw [size_of_list]
            have := trim_len s.data.toList
            omega
          obtain ⟨x, y, b, hx, hy, hxy, c2⟩ := cut_some ⟨(Lib.trimPrefix s.data.toList [45]).toArray⟩ (by omega)
          have hpart : ∀ a, a < 18446744073709551616 → s.data.toList = textL a → rg a < 9218868437227405312 ∧ nanB a = false ∧ Lib.hasPrefix s.data.toList [45] = sgB a ∧ x.data.toList = Lib.decDigits (oddM a) ∧ y.data.toList = Lib.itoa (oddE a) := fun a ha h => by
            obtain ⟨g1, g2, e⟩ := hfin a ha h
            obtain ⟨t1, t2⟩ := fin_trim a
            rw [← e] at t1 t2
            obtain ⟨x1, y1⟩ := hxy (Lib.decDigits (oddM a)) (Lib.itoa (oddE a)) (dig_ne _) (by simpa using t2)
            exact ⟨g1, g2, t1, x1, y1⟩
          have hM : ∀ a, Lib.parseUintB 53 (Lib.decDigits (oddM a)) = .ok (oddM a) := fun a => pub_digits 53 _ (by decide) (by have := oddM_lt a; simp only [Nat.reducePow, Nat.reduceSub]; omega)
          have hE : ∀ a, Lib.parseIntB 16 (Lib.itoa (oddE a)) = .ok (oddE a) := fun a => pib_itoa _ (by have := oddE_bd a; omega)
          by_cases hu : ∃ m, Lib.parseUintB 53 x.data.toList = .ok m
          · obtain ⟨m, hm⟩ := hu
            have hml := pub_le _ _ _ hm
            have c3 : ∀ w1, Below w.heap.size w w1 → Calls Tryz.prog 88 #[.string x, .int .i64 10, .int .i64 53] w1 (Grew (.tuple #[.int .u64 m, .nilIface]) w1) := fun w1 _ => pu_ok x (by omega) m hm w1
            by_cases hi : ∃ n, Lib.parseIntB 16 y.data.toList = .ok n
            · obtain ⟨n, hn⟩ := hi
              obtain ⟨r, hr, hex, c5⟩ := ldexp_any m (by simp only [Nat.reducePow, Nat.reduceSub] at hml; omega) n (pib_le _ _ hn)
              refine ⟨_, true, ?_, fun a ha h => ⟨?_, rfl⟩, guess_ok s _ x y _ b m r n w hp h23 (ofI_eq _) c1 c2 c3 (fun w1 _ => pi_ok y (by omega) n hn w1) c5⟩
              · split
                · rw [flipN_eq r hr]; split <;> omega
                · exact hr
              · obtain ⟨g1, g2, t1, x1, y1⟩ := hpart a ha h
                rw [x1, hM] at hm
                rw [y1, hE] at hn
                injection hm with hm
                injection hn with hn
                obtain ⟨k, k1, k2⟩ := val_odd a g1
                have hra := hex (rg a) k g1 (by rw [← hn]; exact k1) (by rw [← hm]; exact k2)
                show (if Lib.hasPrefix s.data.toList [45] = true then flipN r else r) = canonN a
                rw [t1, hra, flip_rg a ha, canon_of_num g2]
            · refine ⟨0, false, by omega, fun a ha h => ?_, guess_fell2 s _ x y _ b m w hp h23 c1 c2 c3 (fun w1 hb => pi_bad y (by omega) (fun v hv => hi ⟨v, hv⟩) w1 (he.below hb))⟩
              obtain ⟨_, _, _, _, y1⟩ := hpart a ha h
              exact absurd ⟨oddE a, by rw [y1]; exact hE a⟩ hi
          · refine ⟨0, false, by omega, fun a ha h => ?_, guess_fell1 s _ x y _ b w hp h23 c1 c2 (fun w1 hb => pu_bad x (by omega) (fun v hv => hu ⟨v, hv⟩) w1 (he.below hb))⟩
            obtain ⟨_, _, _, x1, _⟩ := hpart a ha h
            exact absurd ⟨oddM a, by rw [x1]; exact hM a⟩ hu
end Go.Proofs.YtdmgaaaomleojaaGreatDoor.Fl
