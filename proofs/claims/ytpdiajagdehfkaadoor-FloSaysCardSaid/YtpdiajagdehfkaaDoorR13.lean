/- gristmillref1.FloParse, of any text of at most 60 bytes: the canonical float whose text it is, or none. Conditions: as each says. -/
import Derived.Test.YtpdiajagdehfkaaDoorR12
namespace Go.Proofs.YtpdiajagdehfkaaDoor
open Go.RowKit Ieee

theorem b45 (c : UInt8) : ((c.toNat : Int) == 45) = true ↔ c = 45 := by
  rw [beq_iff_eq]
  constructor
  · intro h
    apply UInt8.toNat_inj.1
    show c.toNat = 45
    omega
  · rintro rfl; rfl
theorem b112 (c : UInt8) : ((c.toNat : Int) != 112) = true ↔ c ≠ 112 := by
  rw [bne_iff_ne]
  constructor
  · rintro h rfl
    exact h rfl
  · intro h e
    apply h
    apply UInt8.toNat_inj.1
    show c.toNat = 112
    omega
theorem head_of (s : ByteArray) (h : 0 < s.size) : s.data.toList = s[0] :: s.data.toList.drop 1 := by
  have := List.drop_eq_getElem_cons (l := s.data.toList) (i := 0) (by rw [← Lib.size_eq]; omega)
  rw [List.drop_zero] at this
  exact this
theorem rest_of (s : ByteArray) : (s.extract 1 s.size).data.toList = s.data.toList.drop 1 := by
  rw [Lib.extract_data, List.take_of_length_le (by rw [List.length_drop, ← Lib.size_eq]; exact Nat.le_refl _)]

theorem sg_split (s : ByteArray) (h1 : (s.toList == [110, 97, 110]) = false) (h0 : 0 < s.size) (hmax : s.size ≤ 60) :
    ∃ t sg, FpSg s t sg ∧ s.data.toList = sgL sg ++ t.data.toList ∧ t.size ≤ 60 ∧ (sg = false → ∀ r, s.data.toList ≠ 45 :: r) := by
  have hh := head_of s h0
  have hne : s.toList.isEmpty = false := by rw [ByteArray.toList_eq, hh]; rfl
  by_cases hc : ((s[0].toNat : Int) == 45) = true
  · refine ⟨s.extract 1 s.size, true, ⟨h1, hne, h0, hc, fun w => sl_lo s 1 (by omega) w⟩, ?_, ?_, fun h => by cases h⟩
    · rw [rest_of]
      rw [(b45 _).1 hc] at hh
      exact hh
    · rw [ByteArray.size_extract]; omega
  · refine ⟨s, false, ⟨rfl, h1, hne, h0, Bool.eq_false_iff.2 hc⟩, rfl, hmax, fun _ r e => ?_⟩
    exact hc ((b45 _).2 (List.cons.inj (hh.symm.trans e)).1)

theorem p_split (t : ByteArray) (hmax : t.size ≤ 60) (h2 : (t.toList == [105, 110, 102]) = false) (h3 : (t.toList == [48, 112, 48]) = false) (hp : 112 ∈ t.data.toList) :
    ∃ x y i, FpT t x y i ∧ t.data.toList = x.data.toList ++ 112 :: y.data.toList ∧ ∀ c ∈ x.data.toList, c ≠ 112 := by
  have hge := Lib.indexByte_ge t.data.toList 112
  by_cases hm : Lib.indexByte t.data.toList 112 = -1
  · obtain ⟨k, hk⟩ := List.getElem?_of_mem hp
    exact absurd hk (Lib.indexByte_none hm k)
  · obtain ⟨i, hi⟩ : ∃ i : Nat, Lib.indexByte t.data.toList 112 = i := ⟨(Lib.indexByte t.data.toList 112).toNat, by omega⟩
    obtain ⟨g1, g2⟩ := Lib.indexByte_some hi
    have hsz := Lib.size_eq t
    obtain ⟨hl, g3⟩ := List.getElem?_eq_some_iff.1 g1
    have hit : i < t.size := by rw [hsz]; exact hl
    have hx : (t.extract 0 i).data.toList = t.data.toList.take i := by rw [Lib.extract_data]; simp
    have hy : (t.extract (i + 1) t.size).data.toList = t.data.toList.drop (i + 1) := by
      rw [Lib.extract_data, List.take_of_length_le (by rw [List.length_drop, ← hsz]; exact Nat.le_refl _)]
    refine ⟨t.extract 0 i, t.extract (i + 1) t.size, i, ⟨hmax, h2, h3, hit, fun k hk hki => ?_, ?_, fun w => sl_hi t i (by omega) w, fun w => sl_lo t (i + 1) (by omega) w⟩, ?_, ?_⟩
    · rw [b112]
      intro e
      exact g2 k hki (by rw [List.getElem?_eq_getElem (by rw [← hsz]; exact hk)]; exact congrArg some e)
    · have : t[i] = 112 := g3
      rw [this]; rfl
    · rw [hx, hy]
      have := List.take_append_drop i t.data.toList
      rw [List.drop_eq_getElem_cons hl, g3] at this
      exact this.symm
    · intro c hc
      rw [hx] at hc
      obtain ⟨k, hk⟩ := List.getElem?_of_mem hc
      rw [List.getElem?_take] at hk
      split at hk
      · rename_i hki
        intro e
        subst e
        exact g2 k hki hk
      · cases hk

theorem fin_parts (s t : ByteArray) (sg : Bool) (hs : s.data.toList = sgL sg ++ t.data.toList) (hd : sg = false → ∀ r, s.data.toList ≠ 45 :: r)
    (h1 : (s.toList == [110, 97, 110]) = false) (h2 : (t.toList == [105, 110, 102]) = false) (h3 : (t.toList == [48, 112, 48]) = false) (a : Nat) (ha : a < 18446744073709551616) (h : s.data.toList = textL a) :
    rg a < 9218868437227405312 ∧ t.data.toList = Lib.decDigits (oddM a) ++ 112 :: Lib.itoa (oddE a) ∧ oddM a % 2 = 1 := by
  rw [ByteArray.toList_eq, beq_eq_false_iff_ne] at h1 h2 h3
  rcases textL_cases a ha with ⟨_, e⟩ | ⟨_, e⟩ | ⟨_, e⟩ | ⟨g1, _, e⟩
  · exact absurd (h.trans e) h1
  · cases sg
    · exact absurd (hs.symm.trans (h.trans e)) h2
    · exact absurd (List.cons.inj (hs.symm.trans (h.trans e))).1 (by decide)
  · cases sg
    · exact absurd (h.trans e) (hd rfl _)
    · exact absurd (List.cons.inj (hs.symm.trans (h.trans e))).2 h2
  · have hf := h.trans e
    have ht : t.data.toList = Lib.decDigits (oddM a) ++ 112 :: Lib.itoa (oddE a) := by
      unfold finL at hf
      obtain ⟨c, q, e1, e2⟩ := dd_cons (oddM a)
      cases sg <;> cases hsa : sgB a <;> rw [hsa] at hf <;> simp only [Bool.false_eq_true, if_false, if_true, List.nil_append, List.cons_append] at hf
      · exact hs.symm.trans hf
      · exact absurd hf (hd rfl _)
      · have := hs.symm.trans hf
        rw [e1] at this
        obtain ⟨rfl, _⟩ := List.cons.inj this
        exact absurd e2 (by unfold isDig; decide)
      · exact (List.cons.inj (hs.symm.trans hf)).2
    refine ⟨g1, ht, ?_⟩
    rcases odd_odd a with ⟨m0, e0⟩ | g
    · exfalso
      rw [m0, e0] at ht
      exact h3 (ht.trans (by decide +kernel))
    · exact g

theorem itoa_lt (n : Int) (h : n < 0) : Lib.itoa n = 45 :: Lib.decDigits n.natAbs := by unfold Lib.itoa; rw [if_pos h]
theorem itoa_ge (n : Int) (h : 0 ≤ n) : Lib.itoa n = Lib.decDigits n.toNat := by unfold Lib.itoa; rw [if_neg (by omega)]
theorem itoa_nil (n : Int) : Lib.itoa n ≠ [] := by
  unfold Lib.itoa
  split
  · exact List.cons_ne_nil _ _
  · exact dd_ne _

/-- What FloParse answers of a text. -/
def RAns (s : ByteArray) : Prop := ∃ (v : Nat) (ok : Bool), v < 18446744073709551616 ∧ (ok = true → s.data.toList = textL v ∧ canonN v = v) ∧ (ok = false → v = 0 ∧ ∀ a, a < 18446744073709551616 → s.data.toList ≠ textL a) ∧
  ∀ w, Calls Tryd.prog 18 #[.string s] w fun e w' => e = .returned (.tuple #[.int .u64 (v : Nat), .bool ok]) ∧ w = w'
theorem no_ans {s : ByteArray} (hn : ∀ a, a < 18446744073709551616 → s.data.toList ≠ textL a) (hw : ∀ w, Calls Tryd.prog 18 #[.string s] w fun e w' => e = .returned (.tuple #[.int .u64 0, .bool false]) ∧ w = w') : RAns s :=
  ⟨0, false, by omega, (fun h => by cases h), fun _ => ⟨rfl, hn⟩, hw⟩
theorem yes_ans {s : ByteArray} (v : Nat) (hv : v < 18446744073709551616) (hn : canonN v = v) (ht : s.data.toList = textL v) (hw : ∀ w, Calls Tryd.prog 18 #[.string s] w fun e w' => e = .returned (.tuple #[.int .u64 (v : Nat), .bool true]) ∧ w = w') : RAns s :=
  ⟨v, true, hv, fun _ => ⟨ht, hn⟩, (fun h => by cases h), hw⟩

theorem dd_short (n k : Nat) (h : n < 10 ^ (k + 1)) : (Lib.decDigits n).length ≤ k + 1 := by rw [Lib.decDigits_length]; exact nDigits_bd k n h
theorem dd_less (n k : Nat) (h : (Lib.decDigits n).length ≤ k) : n < 10 ^ k := by
  rw [Lib.decDigits_length] at h
  exact Nat.lt_of_lt_of_le (Lib.lt_pow_nDigits n) (Nat.pow_le_pow_right (by omega) h)

end Go.Proofs.YtpdiajagdehfkaaDoor
