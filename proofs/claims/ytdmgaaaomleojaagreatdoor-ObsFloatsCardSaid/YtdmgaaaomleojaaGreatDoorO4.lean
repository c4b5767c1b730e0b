/- The texts of whole numbers and of floats: which bytes they have; what package strings, and lex.Upper, tell of such a text. Conditions: 64 bits. -/
import Derived.Test.YtdmgaaaomleojaaGreatDoorO3
import Derived.Test.YtdmgaaaomleojaaGreatDoorUp
import Derived.Test.YtdmgaaaomleojaaGreatDoorFlW18
import Derived.Lib.IndexLaws
import Derived.Lib.Strings
import Derived.Lib.TrimByte
namespace Go.Proofs.YtdmgaaaomleojaaGreatDoor
open Go.RowKit

/-- a byte that a number's text may have -/
def okc (c : UInt8) : Bool := (decide (48 ≤ c.toNat) && decide (c.toNat ≤ 57)) || (c == 45 || (c == 97 || (c == 102 || (c == 105 || (c == 110 || c == 112)))))
/-- a text of such bytes, not empty and short -/
structure Okt (s : ByteArray) : Prop where
  ne : s.data.toList ≠ []
  ok : ∀ c ∈ s.data.toList, okc c = true
  small : s.size ≤ 100
theorem okc_dig {c : UInt8} (h : isDig c) : okc c = true := by
  unfold okc
  unfold isDig at h
  simp [h.1, h.2]
theorem ok_dd (u : Nat) : ∀ c ∈ Lib.decDigits u, okc c = true := fun c hc => okc_dig (dd_dig u c hc)
theorem ok_itoa (n : Int) : ∀ c ∈ Lib.itoa n, okc c = true := by
  intro c hc
  unfold Lib.itoa at hc
  split at hc
  · rcases List.mem_cons.1 hc with rfl | h
    · rfl
    · exact ok_dd _ c h
  · exact ok_dd _ c hc
theorem okt_itoa (n : Int) (h0 : -9223372036854775808 ≤ n) (h1 : n ≤ 9223372036854775807) : Okt ⟨(Lib.itoa n).toArray⟩ := by
  refine ⟨?_, fun c hc => ok_itoa n c (by simpa using hc), ?_⟩
  · simpa using itoa_nil n
  · have := itoa_len n h0 h1
    show (Lib.itoa n).toArray.size ≤ 100
    simp; omega
theorem okt_text (a : Nat) (ha : a < 18446744073709551616) : Okt ⟨(Fl.textL a).toArray⟩ := by
  rcases Fl.textL_cases a ha with ⟨_, h⟩ | ⟨_, h⟩ | ⟨_, h⟩ | ⟨_, _, h⟩
  · rw [h]; exact ⟨by simp, by decide, by decide⟩
  · rw [h]; exact ⟨by simp, by decide, by decide⟩
  · rw [h]; exact ⟨by simp, by decide, by decide⟩
  · rw [h]
    refine ⟨by simp [Fl.finL], fun c hc => ?_, ?_⟩
    · have hc' : c ∈ Fl.finL a := by simpa using hc
      unfold Fl.finL at hc'
      rcases List.mem_append.1 hc' with h1 | h1
      · split at h1
        · simp at h1; subst h1; rfl
        · simp at h1
      · rcases List.mem_append.1 h1 with h2 | h2
        · exact ok_dd _ c h2
        · rcases List.mem_cons.1 h2 with rfl | h3
          · rfl
          · exact ok_itoa _ c h3
    · have := Fl.fin_len a
      show (Fl.finL a).toArray.size ≤ 100
      simp; omega
theorem okt_no {s : ByteArray} (h : Okt s) (c : UInt8) (hc : okc c = false) : c ∉ s.data.toList := fun e => by
  have := h.ok c e
  rw [hc] at this; cases this
/-- a float's text is no whole number's -/
theorem text_nonum (a : Nat) (ha : a < 18446744073709551616) (v : Int) : ¬ NumIs (Fl.textL a) v := by
  rintro ⟨h, _, _⟩
  have key : ∀ c, c ∈ Fl.textL a → isDig c ∨ c = 45 := by
    intro c hc
    rw [← h] at hc
    unfold Lib.itoa at hc
    split at hc
    · rcases List.mem_cons.1 hc with rfl | h
      · exact .inr rfl
      · exact .inl (dd_dig _ c h)
    · exact .inl (dd_dig _ c hc)
  have no : ∀ c, c ∈ Fl.textL a → (c = 110 ∨ c = 112) → False := by
    intro c hc h
    rcases key c hc with h1 | h1
    · unfold isDig at h1
      rcases h with rfl | rfl <;> simp at h1
    · rcases h with rfl | rfl <;> simp at h1
  rcases Fl.textL_cases a ha with ⟨_, h⟩ | ⟨_, h⟩ | ⟨_, h⟩ | ⟨_, _, h⟩
  · exact no 110 (by rw [h]; simp) (.inl rfl)
  · exact no 110 (by rw [h]; simp) (.inl rfl)
  · exact no 110 (by rw [h]; simp) (.inl rfl)
  · exact no 112 (by rw [h]; unfold Fl.finL; simp) (.inr rfl)

theorem okt_upper {s : ByteArray} (h : Okt s) : upperB s = false := by
  unfold upperB
  have h0 : ∃ c r, s.data.toList = c :: r := by
    cases hl : s.data.toList with
    | nil => exact absurd hl h.ne
    | cons c r => exact ⟨c, r, rfl⟩
  obtain ⟨c, r, e⟩ := h0
  have hc := h.ok c (by rw [e]; simp)
  have : grI (hdI s) = false := by
    unfold hdI
    rw [e]
    show grI (c.toNat : Int) = false
    unfold okc at hc
    unfold grI
    have : c.toNat ≤ 57 ∨ 97 ≤ c.toNat := by
      simp only [Bool.or_eq_true, Bool.and_eq_true, decide_eq_true_eq, beq_iff_eq] at hc
      rcases hc with ⟨_, h⟩ | rfl | rfl | rfl | rfl | rfl | rfl
      · exact .inl h
      all_goals decide
    simp
    omega
  rw [this, Bool.and_false]

set_option maxRecDepth 100000 in
set_option maxHeartbeats 1000000 in
theorem cut_sp0 (s : ByteArray) (hi : Lib.indexByte s.data.toList 32 = -1) (w : World) :
    Calls Tryz.prog 29 #[.string s, .string ⟨#[32]⟩] w fun e w' => e = .returned (.tuple #[.string s, .string ⟨#[]⟩, .bool false]) ∧ Below w.heap.size w w' := by
  have HI := Lib.hid hi
  clear hi
  go_enter Tryz.func29, Tryz.ntmps29
  go_wp2_with (go_at_call 45; refine (Tryz.stringslite_Index_one _ _ _).mono ?_; rintro e w' ⟨rfl, rfl⟩; rw [HI.out])
  go_ret3
  exact ⟨rfl, Below.refl _ _⟩
set_option maxRecDepth 100000 in
set_option maxHeartbeats 1000000 in
theorem cut_sp (s : ByteArray) (h : Okt s) (w : World) :
    Calls Tryz.prog 17 #[.string s, .string ⟨#[32]⟩] w (Grew (.tuple #[.string s, .string ⟨#[]⟩, .bool false]) w) := by
  have hi : Lib.indexByte s.data.toList 32 = -1 := by
    have hge := Lib.indexByte_ge s.data.toList 32
    rcases Int.lt_or_le (Lib.indexByte s.data.toList 32) 0 with h1 | h1
    · omega
    · obtain ⟨i, hi⟩ : ∃ i : Nat, Lib.indexByte s.data.toList 32 = i := ⟨(Lib.indexByte s.data.toList 32).toNat, by omega⟩
      exact absurd (List.mem_of_getElem? (Lib.indexByte_some hi).1) (okt_no h 32 rfl)
  have H := Lib.hid (cut_sp0 s hi w)
  clear hi h
  go_enter Tryz.func17, Tryz.ntmps17
  go_wp2_with fail
  refine H.out.mono ?_
  rintro e w1 ⟨rfl, hb⟩
  go_wp2_with fail
  go_ret3
  exact ⟨rfl, hb⟩
theorem prefix_br (s : ByteArray) (h : Okt s) (w : World) :
    Calls Tryz.prog 30 #[.string s, .string ⟨#[40]⟩] w (Grew (.tuple #[.string s, .bool false]) w) := by
  have hp : Lib.hasPrefix s.data.toList [40] = false := by
    unfold Lib.hasPrefix
    cases hl : s.data.toList with
    | nil => exact absurd hl h.ne
    | cons c r =>
      have : ¬ (40 : UInt8) = c := fun e => okt_no h 40 rfl (by rw [hl, ← e]; simp)
      simp [List.isPrefixOf, this]
  refine (Tryz.strings_CutPrefix s ⟨#[40]⟩ w).mono fun e w' ⟨h1, h2⟩ => ⟨?_, by rw [h2]; exact Below.refl _ _⟩
  rw [h1]
  show Ending.returned (.tuple #[.string ⟨(Lib.trimPrefix s.data.toList [40]).toArray⟩, .bool (Lib.hasPrefix s.data.toList [40])]) = _
  unfold Lib.trimPrefix
  rw [hp]
  rfl
theorem trim_br (s : ByteArray) (h : Okt s) (w : World) :
    Calls Tryz.prog 32 #[.string s, .string ⟨#[41]⟩] w (Grew (.string s) w) := by
  have ht : Lib.trimRightB s.data.toList 41 = s.data.toList := by
    unfold Lib.trimRightB
    have : s.data.toList.reverse.dropWhile (· == 41) = s.data.toList.reverse := by
      cases hr : s.data.toList.reverse with
      | nil => rfl
      | cons c r =>
        have hm : c ∈ s.data.toList := by rw [← List.mem_reverse, hr]; simp
        have : ¬ c = 41 := fun e => okt_no h 41 rfl (by rw [← e]; exact hm)
        exact List.dropWhile_cons_of_neg (by simpa using this)
    rw [this, List.reverse_reverse]
  refine (Tryz.strings_TrimRight_one s 41 (by decide) w (by have := h.small; omega)).mono fun e w' ⟨h1, h2⟩ => ⟨?_, by rw [h2]; exact Below.refl _ _⟩
  rw [h1, ht]
end Go.Proofs.YtdmgaaaomleojaaGreatDoor
