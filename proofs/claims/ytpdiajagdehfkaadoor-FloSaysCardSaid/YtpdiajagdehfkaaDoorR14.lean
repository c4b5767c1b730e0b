/- gristmillref1.FloParse, of any text of at most 60 bytes, put together. Conditions: as each says. -/
import Derived.Test.YtpdiajagdehfkaaDoorR13
namespace Go.Proofs.YtpdiajagdehfkaaDoor
open Go.RowKit Ieee

/-- What a text's parts are if it is a float's. -/
def Parts (s x y : ByteArray) : Prop := ∀ a, a < 18446744073709551616 → s.data.toList = textL a → rg a < 9218868437227405312 ∧ x.data.toList = Lib.decDigits (oddM a) ∧ y.data.toList = Lib.itoa (oddE a) ∧ oddM a % 2 = 1

theorem no_x {s x y : ByteArray} (hP : Parts s x y) (h : ∀ u, x.data.toList = Lib.decDigits u → 16 < x.size) : ∀ a, a < 18446744073709551616 → s.data.toList ≠ textL a := fun a ha e => by
  obtain ⟨_, g, _, _⟩ := hP a ha e
  have h1 := h _ g
  have h2 := dd_short (oddM a) 15 (Nat.lt_trans (oddM_lt a) (by decide))
  rw [Lib.size_eq, g] at h1
  omega
theorem no_m {s x y : ByteArray} {m : Nat} (hP : Parts s x y) (hx : x.data.toList = Lib.decDigits m) (h : m % 2 = 0 ∨ 9007199254740992 ≤ m) : ∀ a, a < 18446744073709551616 → s.data.toList ≠ textL a := fun a ha e => by
  obtain ⟨_, g, _, go⟩ := hP a ha e
  have h1 := dd_inj (hx.symm.trans g)
  have h2 := oddM_lt a
  omega

theorem tail_none (s t x y : ByteArray) (i : Nat) (sg : Bool) (hS : FpSg s t sg) (hT : FpT t x y i) (hP : Parts s x y) (h0 : y.size = 0) : RAns s := by
  have hl : y.data.toList = [] := List.length_eq_zero_iff.1 (by rw [← Lib.size_eq]; exact h0)
  have hye : y.toList.isEmpty = true := by rw [ByteArray.toList_eq, hl]; rfl
  have hn : ∀ a, a < 18446744073709551616 → s.data.toList ≠ textL a := fun a ha e => by
    obtain ⟨_, _, g, _⟩ := hP a ha e
    rw [hl] at g
    exact itoa_nil _ g.symm
  obtain ⟨m, b1, _, _, _, d1⟩ := digits_any x 16 (by omega)
  cases b1
  · exact no_ans hn fun w => fpx3_is s t x y i m 0 false w sg hS hT hye d1 (fun w => dig_empty y 4 w hye)
  · exact no_ans hn fun w => fpx3_has s t x y i m 0 w sg hS hT hye d1 (fun w => dig_empty y 4 w hye)

theorem tail_minus (s t x y : ByteArray) (i : Nat) (sg : Bool) (hS : FpSg s t sg) (hT : FpT t x y i) (hP : Parts s x y) (hsx : s.data.toList = sgL sg ++ (x.data.toList ++ 112 :: y.data.toList))
    (h0 : 0 < y.size) (hc : ((y[0].toNat : Int) == 45) = true) : RAns s := by
  have hh := head_of y h0
  rw [(b45 _).1 hc] at hh
  have hyne : y.toList.isEmpty = false := by rw [ByteArray.toList_eq, hh]; rfl
  obtain ⟨z, hz⟩ : ∃ z, z = y.extract 1 y.size := ⟨_, rfl⟩
  have hN : FpN1 y z := ⟨hyne, h0, hc, fun w => by rw [hz]; exact sl_lo y 1 (by omega) w⟩
  have hyz : y.data.toList = 45 :: z.data.toList := by rw [hz, rest_of]; exact hh
  have hneg : ∀ a, a < 18446744073709551616 → s.data.toList = textL a → oddE a < 0 ∧ z.data.toList = Lib.decDigits (oddE a).natAbs := fun a ha e => by
    obtain ⟨_, _, g, _⟩ := hP a ha e
    rw [hyz] at g
    by_cases hn : oddE a < 0
    · rw [itoa_lt _ hn] at g
      exact ⟨hn, (List.cons.inj g).2⟩
    · rw [itoa_ge _ (by omega)] at g
      obtain ⟨c, r, e1, e2⟩ := dd_cons (oddE a).toNat
      rw [e1] at g
      obtain ⟨rfl, _⟩ := List.cons.inj g
      exact absurd e2 (by unfold isDig; decide)
  obtain ⟨m, b1, p1, p2, _, d1⟩ := digits_any x 16 (by omega)
  obtain ⟨e, b2, q1, q2, _, d2⟩ := digits_any z 4 (by omega)
  cases b1
  · obtain ⟨rfl, p3⟩ := p2 rfl
    exact no_ans (no_x hP p3) fun w => fpx1_is s t x y z i 0 e b2 w sg hS hT hN d1 d2
  · obtain ⟨px, _⟩ := p1 rfl
    cases b2
    · obtain ⟨rfl, q3⟩ := q2 rfl
      refine no_ans (fun a ha h => ?_) fun w => fpx1_has s t x y z i m 0 w sg hS hT hN d1 d2
      obtain ⟨g1, g2⟩ := hneg a ha h
      have h1 := q3 _ g2
      have h3 := oddE_bd a
      have h2 := dd_short (oddE a).natAbs 3 (by simp only [Nat.reduceAdd, Nat.reducePow]; omega)
      rw [Lib.size_eq, g2] at h1
      omega
    · obtain ⟨qz, qs⟩ := q1 rfl
      have he : e < 10000 := by
        have := dd_less e 4 (by rw [← qz, ← Lib.size_eq]; exact qs)
        simpa using this
      by_cases hm : ((m : Int) % 2 == 0) = true
      · refine no_ans (no_m hP px (Or.inl ?_)) fun w => fpx1_even s t x y z i m e w sg hS hT hN d1 d2 hm
        rw [beq_iff_eq] at hm
        omega
      · have hm := Bool.eq_false_iff.2 hm
        have hodd : m % 2 = 1 := by
          rw [beq_eq_false_iff_ne] at hm
          omega
        by_cases hm1 : decide ((9007199254740992 : Int) ≤ (m : Int)) = true
        · refine no_ans (no_m hP px (Or.inr ?_)) fun w => fpx1_big s t x y z i m e w sg hS hT hN d1 d2 hm hm1
          rw [decide_eq_true_iff] at hm1
          omega
        · have hm1 := Bool.eq_false_iff.2 hm1
          have hmb : m < 9007199254740992 := by
            rw [decide_eq_false_iff_not] at hm1
            omega
          have hE : ∀ a, a < 18446744073709551616 → s.data.toList = textL a → oddE a < 0 ∧ oddE a = -(e : Int) := fun a ha h => by
            obtain ⟨g1, g2⟩ := hneg a ha h
            have := dd_inj (qz.symm.trans g2)
            exact ⟨g1, by omega⟩
          by_cases hez : ((e : Int) == 0) = true
          · refine no_ans (fun a ha h => ?_) fun w => fpx1_negz s t x y z i m e w sg hS hT hN d1 d2 hm hm1 hez
            obtain ⟨g1, g2⟩ := hE a ha h
            rw [beq_iff_eq] at hez
            omega
          · have hez := Bool.eq_false_iff.2 hez
            have he0 : 0 < e := by
              rw [beq_eq_false_iff_ne] at hez
              omega
            obtain ⟨L, hL⟩ : ∃ L, L = m.log2 + 1 := ⟨_, rfl⟩
            obtain ⟨hL1, hL2, hLp, hL0⟩ := log_facts m L hodd hmb hL
            by_cases hlow : -(e : Int) < -1074
            · refine no_ans (fun a ha h => ?_) fun w => fpx1_low s t x y z i m e L w sg hS hT hN d1 d2 hm hm1 hez he hmb hL1 hL2 hLp hL0 hlow
              obtain ⟨g1, g2⟩ := hE a ha h
              have := oddE_bd a
              omega
            · obtain ⟨k, hk⟩ : ∃ k : Nat, -(e : Int) + 1074 = k := ⟨1074 - e, by omega⟩
              have hte : s.data.toList = sgL sg ++ (Lib.decDigits m ++ 112 :: Lib.itoa (-(e : Int))) := by
                rw [hsx, px, hyz, qz, itoa_lt _ (by omega), show (-(e : Int)).natAbs = e by omega]
              by_cases hr3 : -1022 ≤ -(e : Int) + L - 1
              · obtain ⟨Z, H, Y, A, w1, w3, w4, w5, a1, a2, a3⟩ := norm_word m k L (-(e : Int)) sg hk hL hodd hmb (by omega) (by omega)
                exact yes_ans A a1 (canon_of_num a2) (hte.trans a3.symm) fun w => fpx1_norm s t x y z i m e L Z H Y A w sg hS hT hN d1 d2 hm hm1 hez he hmb hL1 hL2 hLp hL0 (by omega) hlow hr3 w1 w3 w4 w5
              · obtain ⟨G, A, w2, w5, a1, a2, a3⟩ := sub_word m k L (-(e : Int)) sg hk hL hodd (by omega)
                exact yes_ans A a1 (canon_of_num a2) (hte.trans a3.symm) fun w => fpx1_sub s t x y z i m e L G A w sg hS hT hN d1 d2 hm hm1 hez he hmb hL1 hL2 hLp hL0 (by omega) hlow hr3 w2 w5

theorem tail_plus (s t x y : ByteArray) (i : Nat) (sg : Bool) (hS : FpSg s t sg) (hT : FpT t x y i) (hP : Parts s x y) (hsx : s.data.toList = sgL sg ++ (x.data.toList ++ 112 :: y.data.toList))
    (h0 : 0 < y.size) (hc : ((y[0].toNat : Int) == 45) = false) : RAns s := by
  have hh := head_of y h0
  have hyne : y.toList.isEmpty = false := by rw [ByteArray.toList_eq, hh]; rfl
  have hN : FpN2 y := ⟨hyne, h0, hc⟩
  have hpos : ∀ a, a < 18446744073709551616 → s.data.toList = textL a → 0 ≤ oddE a ∧ y.data.toList = Lib.decDigits (oddE a).toNat := fun a ha e => by
    obtain ⟨_, _, g, _⟩ := hP a ha e
    by_cases hn : oddE a < 0
    · rw [itoa_lt _ hn, hh] at g
      have := (b45 _).2 (List.cons.inj g).1
      rw [this] at hc
      cases hc
    · rw [itoa_ge _ (by omega)] at g
      exact ⟨by omega, g⟩
  obtain ⟨m, b1, p1, p2, _, d1⟩ := digits_any x 16 (by omega)
  obtain ⟨e, b2, q1, q2, _, d2⟩ := digits_any y 4 (by omega)
  cases b1
  · obtain ⟨rfl, p3⟩ := p2 rfl
    exact no_ans (no_x hP p3) fun w => fpx2_is s t x y i 0 e b2 w sg hS hT hN d1 d2
  · obtain ⟨px, _⟩ := p1 rfl
    cases b2
    · obtain ⟨rfl, q3⟩ := q2 rfl
      refine no_ans (fun a ha h => ?_) fun w => fpx2_has s t x y i m 0 w sg hS hT hN d1 d2
      obtain ⟨g1, g2⟩ := hpos a ha h
      have h1 := q3 _ g2
      have h3 := oddE_bd a
      have h2 := dd_short (oddE a).toNat 3 (by simp only [Nat.reduceAdd, Nat.reducePow]; omega)
      rw [Lib.size_eq, g2] at h1
      omega
    · obtain ⟨qz, qs⟩ := q1 rfl
      have he : e < 10000 := by
        have := dd_less e 4 (by rw [← qz, ← Lib.size_eq]; exact qs)
        simpa using this
      by_cases hm : ((m : Int) % 2 == 0) = true
      · refine no_ans (no_m hP px (Or.inl ?_)) fun w => fpx2_even s t x y i m e w sg hS hT hN d1 d2 hm
        rw [beq_iff_eq] at hm
        omega
      · have hm := Bool.eq_false_iff.2 hm
        have hodd : m % 2 = 1 := by
          rw [beq_eq_false_iff_ne] at hm
          omega
        by_cases hm1 : decide ((9007199254740992 : Int) ≤ (m : Int)) = true
        · refine no_ans (no_m hP px (Or.inr ?_)) fun w => fpx2_big s t x y i m e w sg hS hT hN d1 d2 hm hm1
          rw [decide_eq_true_iff] at hm1
          omega
        · have hm1 := Bool.eq_false_iff.2 hm1
          have hmb : m < 9007199254740992 := by
            rw [decide_eq_false_iff_not] at hm1
            omega
          obtain ⟨L, hL⟩ : ∃ L, L = m.log2 + 1 := ⟨_, rfl⟩
          obtain ⟨hL1, hL2, hLp, hL0⟩ := log_facts m L hodd hmb hL
          by_cases hhigh : 1023 < (e : Int) + L - 1
          · refine no_ans (fun a ha h => ?_) fun w => fpx2_high s t x y i m e L w sg hS hT hN d1 d2 hm hm1 he hmb hL1 hL2 hLp hL0 hhigh
            obtain ⟨g1, g2⟩ := hpos a ha h
            obtain ⟨g3, g4, _, g5⟩ := hP a ha h
            have e1 := dd_inj (qz.symm.trans g2)
            have e2 := dd_inj (px.symm.trans g4)
            have e3 := fin_high a g3 g5
            rw [← e2] at e3
            omega
          · obtain ⟨Z, H, Y, A, w1, w3, w4, w5, a1, a2, a3⟩ := norm_word m (e + 1074) L (e : Int) sg (by omega) hL hodd hmb (by omega) (by omega)
            have hte : s.data.toList = sgL sg ++ (Lib.decDigits m ++ 112 :: Lib.itoa (e : Int)) := by
              rw [hsx, px, qz, itoa_ge _ (by omega), Int.toNat_natCast]
            exact yes_ans A a1 (canon_of_num a2) (hte.trans a3.symm) fun w => fpx2_norm s t x y i m e L Z H Y A w sg hS hT hN d1 d2 hm hm1 he hmb hL1 hL2 hLp hL0 hhigh w1 w3 w4 w5

theorem inf_text (sg : Bool) : sgW sg + 9218868437227405312 < 18446744073709551616 ∧ canonN (sgW sg + 9218868437227405312) = sgW sg + 9218868437227405312 ∧ sgL sg ++ [105, 110, 102] = textL (sgW sg + 9218868437227405312) := by
  cases sg <;> exact ⟨by decide, by decide, by decide +kernel⟩
theorem zero_text (sg : Bool) : sgW sg < 18446744073709551616 ∧ canonN (sgW sg) = sgW sg ∧ sgL sg ++ [48, 112, 48] = textL (sgW sg) := by
  cases sg <;> exact ⟨by decide, by decide, by decide +kernel⟩

/-- FLOPARSE, of any text of at most 60 bytes. -/
theorem rparse_any (s : ByteArray) (hmax : s.size ≤ 60) : RAns s := by
  by_cases h1 : (s.toList == [110, 97, 110]) = true
  · refine yes_ans 9221120237041090560 (by omega) (by decide) ?_ fun w => fp_nan s w h1
    rw [ByteArray.toList_eq, beq_iff_eq] at h1
    rw [h1]
    decide +kernel
  · have h1 := Bool.eq_false_iff.2 h1
    by_cases h0 : s.size = 0
    · have hl : s.data.toList = [] := List.length_eq_zero_iff.1 (by rw [← Lib.size_eq]; exact h0)
      have hl' : s.toList = [] := by rw [ByteArray.toList_eq]; exact hl
      refine no_ans (fun a ha e => ?_) fun w => fp0_nop s w h1 (by rw [hl']; rfl) (by rw [hl']; rfl) (by rw [hl']; rfl) h0
      rw [hl] at e
      rcases text_shape a ha _ e.symm with g | g | g | g
      · cases g
      · cases g
      · cases g
      · obtain ⟨c, r, e1, _⟩ := fin_head a
        rw [e1] at g
        cases g
    · obtain ⟨t, sg, hS, hs, ht60, hd⟩ := sg_split s h1 (by omega) hmax
      by_cases h2 : (t.toList == [105, 110, 102]) = true
      · obtain ⟨i1, i2, i3⟩ := inf_text sg
        have h2' := h2
        rw [ByteArray.toList_eq, beq_iff_eq] at h2'
        refine yes_ans _ i1 i2 (by rw [hs, h2']; exact i3) fun w => ?_
        cases sg
        · obtain ⟨rfl, hS⟩ := hS
          exact fp2_inf _ w hS h2
        · exact fp1_inf _ _ w hS h2
      · have h2 := Bool.eq_false_iff.2 h2
        by_cases h3 : (t.toList == [48, 112, 48]) = true
        · obtain ⟨i1, i2, i3⟩ := zero_text sg
          have h3' := h3
          rw [ByteArray.toList_eq, beq_iff_eq] at h3'
          refine yes_ans _ i1 i2 (by rw [hs, h3']; exact i3) fun w => ?_
          cases sg
          · obtain ⟨rfl, hS⟩ := hS
            exact fp2_zero _ w hS h2 h3
          · exact fp1_zero _ _ w hS h2 h3
        · have h3 := Bool.eq_false_iff.2 h3
          have hfin := fin_parts s t sg hs hd h1 h2 h3
          by_cases hp : 112 ∈ t.data.toList
          · obtain ⟨x, y, i, hT, hxy, hx⟩ := p_split t ht60 h2 h3 hp
            have hP : Parts s x y := fun a ha h => by
              obtain ⟨g1, g2, g3⟩ := hfin a ha h
              obtain ⟨g4, g5⟩ := split_inj _ _ _ _ hx (dig_ne _) (hxy.symm.trans g2)
              exact ⟨g1, g4, g5, g3⟩
            have hsx : s.data.toList = sgL sg ++ (x.data.toList ++ 112 :: y.data.toList) := by rw [hs, hxy]
            by_cases hy0 : y.size = 0
            · exact tail_none s t x y i sg hS hT hP hy0
            · have hy : 0 < y.size := by omega
              by_cases hc : ((y[0].toNat : Int) == 45) = true
              · exact tail_minus s t x y i sg hS hT hP hsx hy hc
              · exact tail_plus s t x y i sg hS hT hP hsx hy (Bool.eq_false_iff.2 hc)
          · have hn : ∀ a, a < 18446744073709551616 → s.data.toList ≠ textL a := fun a ha e => by
              obtain ⟨_, g2, _⟩ := hfin a ha e
              apply hp
              rw [g2]
              simp
            have hk : ∀ k (hk : k < t.size), ((t[k].toNat : Int) != 112) = true := fun k hk => by
              rw [b112]
              intro e
              apply hp
              rw [← e]
              exact List.getElem_mem (l := t.data.toList) (n := k) (by rw [← Lib.size_eq]; exact hk)
            refine no_ans hn fun w => ?_
            cases sg
            · obtain ⟨rfl, hS⟩ := hS
              exact fp2_nop _ w hS ht60 h2 h3 hk
            · exact fp1_nop _ _ w hS ht60 h2 h3 hk

end Go.Proofs.YtpdiajagdehfkaaDoor
