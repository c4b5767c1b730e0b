/- num.Parse and gristmillref1.NumParse, of any text: the number of 64 bits whose numeral it is, or none. Conditions: the table of powers of ten and the errors' variables as start-up lays them. -/
import Derived.Test.YtmpkgbpnejajpaaDoorNum4
import Derived.RegionTactic
import Derived.ChangeAlike
namespace Go.Proofs.YtmpkgbpnejajpaaDoor
open Go.RowKit

/-- The variables of errors that reading a number names. -/
structure Errs (w : World) : Prop where
  syn : ∃ tp p, w.var? Tryd.prog "strconv.ErrSyntax" = some #[.iface tp p]
  rng : ∃ tp p, w.var? Tryd.prog "strconv.ErrRange" = some #[.iface tp p]
theorem globSyn : Tryd.prog.globalNamed "strconv.ErrSyntax" = some 2 := by kernel_rfl
theorem globRng : Tryd.prog.globalNamed "strconv.ErrRange" = some 3 := by kernel_rfl
theorem globNum : Tryd.prog.globalNamed "gristmill/api.ErrNumber" = some 0 := by kernel_rfl
theorem Errs.below {w w' : World} (h : Errs w) (hb : Below w.heap.size w w') : Errs w' := by
  obtain ⟨⟨t1, p1, e1⟩, ⟨t2, p2, e2⟩⟩ := h
  exact ⟨⟨t1, p1, var_below hb globSyn e1⟩, ⟨t2, p2, var_below hb globRng e2⟩⟩
theorem cell_of_var {w : World} {n : String} {g : Nat} {v : Value} (hg : Tryd.prog.globalNamed n = some g) (h : w.var? Tryd.prog n = some #[v]) : w.cell? ⟨g, 0, none⟩ = some v := by
  have := World.var?_cell hg h 0
  simpa using this

theorem ext_end (s : ByteArray) (a : Nat) : (s.extract a s.size).data.toList = s.data.toList.drop a := by
  rw [ByteArray.data_extract, Array.toList_extract, List.extract_eq_take_drop, List.take_of_length_le]
  rw [List.length_drop, ← Lib.size_eq]
  exact Nat.le_refl _

/-- ParseInt of a numeral of 64 bits. -/
theorem pi_ok (s : ByteArray) (hlim : s.size ≤ 281474976710656) (v : Int) (h : Lib.parseIntB 64 s.data.toList = .ok v) (w : World) :
    Calls Tryd.prog 27 #[.string s, .int .i64 10, .int .i64 64] w (Grew (.tuple #[.int .i64 v, .nilIface]) w) :=
  (Tryd.strconv_ParseInt_10_at64_ok s (by omega) v h w).mono fun _ _ ⟨he, hw⟩ => ⟨he, by
    rcases hw with rfl | ⟨t, rfl⟩
    · exact Below.refl _ _
    · exact Lib.bytesWorld_below _ _ _⟩
/-- A number, and an error that is not nil. -/
def Fell (w : World) (e : Ending) (w' : World) : Prop := ∃ (x : Int) (N : Nat), e = .returned (.tuple #[.int .i64 x, .iface 67 (.pointer (some ⟨N, 0, none⟩))]) ∧ Below w.heap.size w w'
theorem ends (r : Lib.NumEnd Int) : (∃ v, r = .ok v) ∨ r = Lib.parseIntB 64 [] ∨ r = .range := by
  cases r
  · exact Or.inl ⟨_, rfl⟩
  · exact Or.inr (Or.inl rfl)
  · exact Or.inr (Or.inr rfl)
theorem pi_bad (s : ByteArray) (hlim : s.size ≤ 281474976710656) (h : ∀ v, Lib.parseIntB 64 s.data.toList ≠ .ok v) (w : World) (he : Errs w) :
    Calls Tryd.prog 27 #[.string s, .int .i64 10, .int .i64 64] w (Fell w) := by
  rcases ends (Lib.parseIntB 64 s.data.toList) with ⟨v, hc⟩ | hc | hc
  · exact absurd hc (h v)
  · obtain ⟨tp, p, hv⟩ := he.syn
    exact (Tryd.strconv_ParseInt_10_at64_syntax_var s hlim hc tp p w hv).mono fun _ _ ⟨N, he, _, _, hb⟩ => ⟨_, N, he, hb⟩
  · obtain ⟨tp, p, hv⟩ := he.rng
    exact (Tryd.strconv_ParseInt_10_at64_range_var s hlim hc tp p w hv).mono fun _ _ ⟨N, he, _, _, hb⟩ => ⟨_, N, he, hb⟩

set_option maxRecDepth 100000 in
set_option maxHeartbeats 1000000 in
theorem parse_long (s : ByteArray) (tp : TypeId) (p : Value) (w : World) (hl : 20 < s.size) (hv : w.cell? ⟨0, 0, none⟩ = some (.iface tp p)) :
    Calls Tryd.prog 11 #[.string s] w (Grew (.tuple #[.int .i64 0, .iface tp p]) w) := by
  go_enter Tryd.func11, Tryd.ntmps11
  go_wp2_with fail
  go_region
  all_goals
    go_wp2
    go_ret2
    exact ⟨rfl, Below.drew (Below.refl _ _)⟩

set_option maxRecDepth 100000 in
set_option maxHeartbeats 1000000 in
theorem parse_fell (s : ByteArray) (tp : TypeId) (p : Value) (w : World) (hl : ¬ 20 < s.size)
    (hv : ∀ w1, Below w.heap.size w w1 → w1.cell? ⟨0, 0, none⟩ = some (.iface tp p))
    (h1 : Calls Tryd.prog 27 #[.string s, .int .i64 10, .int .i64 64] w (Fell w)) :
    Calls Tryd.prog 11 #[.string s] w (Grew (.tuple #[.int .i64 0, .iface tp p]) w) := by
  have HV := Lib.hid hv
  have H1 := Lib.hid h1
  clear hv h1
  go_enter Tryd.func11, Tryd.ntmps11
  go_wp2_with fail
  refine H1.out.mono ?_
  rintro e w1 ⟨x, N, rfl, hb1⟩
  have hc := HV.out w1 hb1
  go_wp2_with fail
  go_region
  all_goals
    go_wp2
    go_ret2
    exact ⟨rfl, Below.drew hb1⟩

set_option maxRecDepth 100000 in
set_option maxHeartbeats 1000000 in
theorem parse_differs (s x : ByteArray) (v : Int) (tp : TypeId) (p : Value) (w : World) (hl : ¬ 20 < s.size) (hx : (x.toList == s.toList) = false)
    (hv : ∀ w1, Below w.heap.size w w1 → w1.cell? ⟨0, 0, none⟩ = some (.iface tp p))
    (h1 : Calls Tryd.prog 27 #[.string s, .int .i64 10, .int .i64 64] w (Grew (.tuple #[.int .i64 v, .nilIface]) w))
    (h2 : ∀ w1, Below w.heap.size w w1 → Calls Tryd.prog 15 #[.int .i64 v] w1 (Grew (.string x) w1)) :
    Calls Tryd.prog 11 #[.string s] w (Grew (.tuple #[.int .i64 0, .iface tp p]) w) := by
  have HV := Lib.hid hv
  have H1 := Lib.hid h1
  have H2 := Lib.hid h2
  clear hv h1 h2
  go_enter Tryd.func11, Tryd.ntmps11
  go_wp2_with fail
  refine H1.out.mono ?_
  rintro e w1 ⟨rfl, hb1⟩
  go_wp2_with fail
  refine (H2.out w1 hb1).mono ?_
  rintro e w2 ⟨rfl, hb2⟩
  have hb := hb1.trans (hb2.mono hb1.size)
  have hc := HV.out w2 hb
  go_wp2_with fail
  go_region
  all_goals
    go_wp2
    go_ret2
    exact ⟨rfl, Below.drew hb⟩

set_option maxRecDepth 100000 in
set_option maxHeartbeats 1000000 in
theorem parse_same (s x : ByteArray) (v : Int) (w : World) (hl : ¬ 20 < s.size) (hx : (x.toList == s.toList) = true)
    (h1 : Calls Tryd.prog 27 #[.string s, .int .i64 10, .int .i64 64] w (Grew (.tuple #[.int .i64 v, .nilIface]) w))
    (h2 : ∀ w1, Below w.heap.size w w1 → Calls Tryd.prog 15 #[.int .i64 v] w1 (Grew (.string x) w1)) :
    Calls Tryd.prog 11 #[.string s] w (Grew (.tuple #[.int .i64 v, .nilIface]) w) := by
  have H1 := Lib.hid h1
  have H2 := Lib.hid h2
  clear h1 h2
  go_enter Tryd.func11, Tryd.ntmps11
  go_wp2_with fail
  refine H1.out.mono ?_
  rintro e w1 ⟨rfl, hb1⟩
  go_wp2_with fail
  refine (H2.out w1 hb1).mono ?_
  rintro e w2 ⟨rfl, hb2⟩
  have hb := hb1.trans (hb2.mono hb1.size)
  go_wp2_with fail
  go_ret2
  exact ⟨rfl, hb⟩

/-- PARSE, of a number's numeral. -/
theorem parse_yes (s : ByteArray) (v : Int) (hn : NumIs s.data.toList v) (w : World) (ht : Tabs w) :
    Calls Tryd.prog 11 #[.string s] w (Grew (.tuple #[.int .i64 v, .nilIface]) w) := by
  obtain ⟨h1, h2, h3⟩ := hn
  have hsz : s.size = (Lib.itoa v).length := by rw [h1, Lib.size_eq]
  have hl := itoa_len v h2 h3
  refine parse_same s ⟨(Lib.itoa v).toArray⟩ v w (by omega) (by rw [ByteArray.toList_eq, ByteArray.toList_eq]; simpa using h1) (pi_ok s (by omega) v (by rw [← h1]; exact pib64 v h2 h3) w) fun w1 hb => text_any v h2 h3 w1 (ht.below hb)
/-- PARSE, of any other text. -/
theorem parse_none (s : ByteArray) (hs : ∀ v, ¬ NumIs s.data.toList v) (tp : TypeId) (p : Value) (w : World) (ht : Tabs w) (he : Errs w) (hv : w.var? Tryd.prog "gristmill/api.ErrNumber" = some #[.iface tp p]) :
    Calls Tryd.prog 11 #[.string s] w (Grew (.tuple #[.int .i64 0, .iface tp p]) w) := by
  have hc : ∀ w1, Below w.heap.size w w1 → w1.cell? ⟨0, 0, none⟩ = some (.iface tp p) := fun w1 hb => cell_of_var globNum (var_below hb globNum hv)
  by_cases hl : 20 < s.size
  · exact parse_long s tp p w hl (hc w (Below.refl _ _))
  by_cases h : ∃ v, Lib.parseIntB 64 s.data.toList = .ok v
  · obtain ⟨v, h⟩ := h
    obtain ⟨r0, r1⟩ := pib64_rg _ _ h
    refine parse_differs s ⟨(Lib.itoa v).toArray⟩ v tp p w hl ?_ hc (pi_ok s (by omega) v h w) fun w1 hb => text_any v r0 r1 w1 (ht.below hb)
    rw [ByteArray.toList_eq, ByteArray.toList_eq, beq_eq_false_iff_ne]
    intro e
    exact hs v ⟨by simpa using e, r0, r1⟩
  · exact parse_fell s tp p w hl hc (pi_bad s (by omega) (fun v hv => h ⟨v, hv⟩) w he)

/-- NUMPARSE, of any text. -/
theorem rparse_any (s : ByteArray) : (∃ v, NumIs s.data.toList v ∧ ∀ w, Calls Tryd.prog 12 #[.string s] w fun e w' => e = .returned (.tuple #[.int .i64 v, .bool true]) ∧ w = w')
    ∨ ((∀ v, ¬ NumIs s.data.toList v) ∧ ∀ w, Calls Tryd.prog 12 #[.string s] w fun e w' => e = .returned (.tuple #[.int .i64 0, .bool false]) ∧ w = w') := by
  have hsz := Lib.size_eq s
  by_cases h0 : s.size = 0
  · have hl : s.data.toList = [] := List.length_eq_zero_iff.1 (by rw [← hsz]; exact h0)
    exact Or.inr ⟨fun v hv => itoa_nil v (hv.1.trans hl), fun w => np_empty s w (by rw [ByteArray.toList_eq, hl]; rfl)⟩
  have hne : s.toList.isEmpty = false := by
    rw [ByteArray.toList_eq]
    cases hl : s.data.toList with
    | nil => rw [hl] at hsz; exact absurd hsz h0
    | cons _ _ => rfl
  have h0' : 0 < s.size := by omega
  -- a text behind its sign: what it spells, and what NumParse answers of it
  have key : ∀ (neg : Bool) (t : ByteArray), 0 < t.size → ¬ 19 < t.size → (∀ h : 0 < t.size, t[0].toNat = 48 → t.size = 1 ∧ neg = false) →
      (∀ w, Calls Tryd.prog 12 #[.string s] w fun e w' => e = .returned (npAns neg t.data.toList) ∧ w = w') → (neg = true → s.data.toList = 45 :: t.data.toList) → (neg = false → s.data.toList = t.data.toList ∧ ∀ r, s.data.toList ≠ 45 :: r) →
      (∃ v, NumIs s.data.toList v ∧ ∀ w, Calls Tryd.prog 12 #[.string s] w fun e w' => e = .returned (.tuple #[.int .i64 v, .bool true]) ∧ w = w')
      ∨ ((∀ v, ¬ NumIs s.data.toList v) ∧ ∀ w, Calls Tryd.prog 12 #[.string s] w fun e w' => e = .returned (.tuple #[.int .i64 0, .bool false]) ∧ w = w') := by
    intro neg t ht0 ht19 hz hc hsn hsp
    have htz := Lib.size_eq t
    -- whose numeral it is
    have hval : ∀ v, NumIs s.data.toList v → t.data.toList = Lib.decDigits v.natAbs ∧ (neg = true ↔ v < 0) := by
      intro v ⟨h1, h2, h3⟩
      by_cases hv : v < 0
      · rw [itoa_lt v hv] at h1
        cases neg
        · exact absurd h1.symm ((hsp rfl).2 _)
        · rw [hsn rfl] at h1
          exact ⟨(List.cons.inj h1).2.symm, by simp [hv]⟩
      · rw [itoa_ge v (by omega)] at h1
        cases neg
        · rw [(hsp rfl).1] at h1
          exact ⟨by rw [← h1]; congr 1; omega, by simp [hv]⟩
        · rw [hsn rfl] at h1
          exact absurd h1 (dd_ne_minus _ _)
    unfold npAns at hc
    by_cases hg : (t.data.toList).all digB = true ∧ valF 0 t.data.toList ≤ topN neg
    · rw [if_pos hg] at hc
      obtain ⟨hd, hle⟩ := hg
      have hd' : ∀ c ∈ t.data.toList, isDig c := fun c hc => by
        have := (List.all_eq_true.1 hd) c hc
        simpa [digB, isDig] using this
      have hne' : t.data.toList ≠ [] := fun e => by rw [e, List.length_nil] at htz; omega
      have hhead : ∀ c r, t.data.toList = c :: r → c.toNat = 48 → r = [] := fun c r e hc48 => by
        have e0 : t[0] = c := by
          have : t.data.toList[0]? = some c := by rw [e]; rfl
          have h2 : t.data.toList[0]? = some t[0] := by
            rw [List.getElem?_eq_getElem (by rw [← htz]; exact ht0)]; rfl
          rw [h2] at this
          exact Option.some.inj this
        have := (hz ht0 (by rw [e0]; exact hc48)).1
        rw [htz, e] at this
        simpa using this
      obtain ⟨e1, e2⟩ := canon_digits _ _ rfl hne' hd' hhead
      refine Or.inl ⟨_, ?_, hc⟩
      cases neg
      · simp only [Bool.false_eq_true, if_false]
        unfold topN at hle
        simp only [Bool.false_eq_true, if_false] at hle
        refine ⟨?_, by omega, by omega⟩
        rw [itoa_ge _ (by omega), Int.toNat_natCast, ← e1, (hsp rfl).1]
      · simp only [if_true]
        unfold topN at hle
        simp only [if_true] at hle
        have hpos : 1 ≤ valF 0 t.data.toList := by
          rcases Nat.lt_or_ge 0 (valF 0 t.data.toList) with g | g
          · exact g
          · have g0 : valF 0 t.data.toList = 0 := by omega
            rw [g0] at e1
            rw [Lib.decDigits_one (by omega)] at e1
            have e0 : t[0].toNat = 48 := by
              have h2 : t.data.toList[0]? = some t[0] := by
                rw [List.getElem?_eq_getElem (by rw [← htz]; exact ht0)]; rfl
              rw [e1] at h2
              have := Option.some.inj h2
              rw [← this]
              decide
            exact absurd (hz ht0 e0).2 (by simp)
        refine ⟨?_, by omega, by omega⟩
        rw [itoa_lt _ (by omega), Int.natAbs_neg, Int.natAbs_natCast, ← e1, hsn rfl]
    · rw [if_neg hg] at hc
      refine Or.inr ⟨fun v hv => hg ?_, hc⟩
      obtain ⟨g1, g2⟩ := hval v hv
      obtain ⟨_, r0, r1⟩ := hv
      rw [g1]
      refine ⟨all_dig _ (dd_dig _), ?_⟩
      rw [dd_val]
      unfold topN
      cases neg
      · have : ¬ v < 0 := fun h => by simpa using g2.2 h
        simp only [Bool.false_eq_true, if_false]
        omega
      · simp only [if_true]
        omega
  by_cases hm : (s[0].toNat : Int) = 45
  · have hmb : ((s[0].toNat : Int) == 45) = true := by simpa using hm
    have hs45 : s.data.toList = 45 :: (s.extract 1 s.size).data.toList := by
      cases hl : s.data.toList with
      | nil => rw [hl] at hsz; exact absurd hsz h0
      | cons c r =>
        have e0 : s[0] = c := by
          have : s.data.toList[0]? = some c := by rw [hl]; rfl
          have h2 : s.data.toList[0]? = some s[0] := by
            rw [List.getElem?_eq_getElem (by rw [← hsz]; exact h0')]; rfl
          rw [h2] at this
          exact Option.some.inj this
        have e1 : c = 45 := by
          apply UInt8.toNat_inj.1
          rw [← e0]
          have : s[0].toNat = 45 := by omega
          rw [this]; rfl
        have e2 : (s.extract 1 s.size).data.toList = r := by
          rw [ext_end, hl]
          rfl
        rw [e1, e2]
    have hsl := fun w => sl_lo s 1 (by omega) w
    generalize s.extract 1 s.size = t at hs45 hsl
    have htz := Lib.size_eq t
    by_cases ht0 : t.size = 0
    · have hl : t.data.toList = [] := List.length_eq_zero_iff.1 (by rw [← htz]; exact ht0)
      refine Or.inr ⟨fun v ⟨h1, h2, h3⟩ => ?_, fun w => npM_empty s t w hne h0' hmb hsl (by rw [ByteArray.toList_eq, hl]; rfl)⟩
      rw [hs45, hl] at h1
      by_cases hv : v < 0
      · rw [itoa_lt v hv] at h1
        exact dd_ne _ (List.cons.inj h1).2
      · rw [itoa_ge v (by omega)] at h1
        exact dd_ne_minus _ _ h1
    have hte : t.toList.isEmpty = false := by
      rw [ByteArray.toList_eq]
      cases hl : t.data.toList with
      | nil => rw [hl] at htz; exact absurd htz ht0
      | cons _ _ => rfl
    have hnat : ∀ v, NumIs s.data.toList v → v < 0 ∧ t.data.toList = Lib.decDigits v.natAbs := fun v ⟨h1, h2, h3⟩ => by
      rw [hs45] at h1
      by_cases hv : v < 0
      · rw [itoa_lt v hv] at h1
        exact ⟨hv, (List.cons.inj h1).2.symm⟩
      · rw [itoa_ge v (by omega)] at h1
        exact absurd h1 (dd_ne_minus _ _)
    by_cases h19 : 19 < t.size
    · refine Or.inr ⟨fun v hv => ?_, fun w => npM_long s t w hne h0' hmb hsl hte h19⟩
      have h1 := (hnat v hv).2
      have h2 := dd_len v.natAbs (by have := hv.2; omega)
      rw [← h1, ← htz] at h2
      omega
    by_cases hz : (t[0].toNat : Int) = 48
    · refine Or.inr ⟨fun v hv => ?_, fun w => npM_zero s t w hne h0' hmb hsl hte h19 (by omega) (by simpa using hz)⟩
      obtain ⟨g1, g2⟩ := hnat v hv
      obtain ⟨c, r, e1, e2⟩ := (dd_spec v.natAbs).2.2.2 (by omega)
      rw [← g2] at e1
      have e0 : t[0] = c := by
        have : t.data.toList[0]? = some c := by rw [e1]; rfl
        have h2 : t.data.toList[0]? = some t[0] := by
          rw [List.getElem?_eq_getElem (by rw [← htz]; omega)]; rfl
        rw [h2] at this
        exact Option.some.inj this
      rw [e0] at hz
      omega
    · exact key true t (by omega) h19 (fun _ h => absurd (by omega) hz) (fun w => npM_run s t w hne h0' hmb hsl hte h19 (by omega) (by simpa using hz)) (fun _ => hs45) (fun h => by cases h)
  · have hmb : ((s[0].toNat : Int) == 45) = false := by simpa using hm
    have hno : ∀ r, s.data.toList ≠ 45 :: r := fun r e => by
      have h2 : s.data.toList[0]? = some s[0] := by
        rw [List.getElem?_eq_getElem (by rw [← hsz]; exact h0')]; rfl
      rw [e] at h2
      have := Option.some.inj h2
      rw [← this] at hm
      exact hm rfl
    have hnat : ∀ v, NumIs s.data.toList v → ¬ v < 0 ∧ s.data.toList = Lib.decDigits v.toNat := fun v ⟨h1, h2, h3⟩ => by
      by_cases hv : v < 0
      · rw [itoa_lt v hv] at h1
        exact absurd h1.symm (hno _)
      · rw [itoa_ge v (by omega)] at h1
        exact ⟨hv, h1.symm⟩
    by_cases h19 : 19 < s.size
    · refine Or.inr ⟨fun v hv => ?_, fun w => npP_long s w h0' hmb hne h19⟩
      have h1 := (hnat v hv).2
      have h2 := dd_len v.toNat (by have := hv.2; omega)
      rw [← h1, ← hsz] at h2
      omega
    by_cases hz : (s[0].toNat : Int) = 48
    · by_cases h1 : 1 < s.size
      · refine Or.inr ⟨fun v hv => ?_, fun w => npP_zero s w h0' hmb hne h19 h0' h1 (by simpa using hz)⟩
        obtain ⟨g1, g2⟩ := hnat v hv
        cases hl : s.data.toList with
        | nil => rw [hl] at hsz; exact absurd hsz h0
        | cons c r =>
          have e0 : s[0] = c := by
            have : s.data.toList[0]? = some c := by rw [hl]; rfl
            have h2 : s.data.toList[0]? = some s[0] := by
              rw [List.getElem?_eq_getElem (by rw [← hsz]; exact h0')]; rfl
            rw [h2] at this
            exact Option.some.inj this
          have := dd_head v.toNat c r (by rw [← g2, hl]) (by rw [← e0]; omega)
          rw [hl, this] at hsz
          simp at hsz
          omega
      · exact key false s h0' h19 (fun _ _ => ⟨by omega, rfl⟩) (fun w => npP_run s w h0' hmb hne h19 h0' (Or.inr ⟨by simpa using hz, h1⟩)) (fun h => by cases h) (fun _ => ⟨rfl, hno⟩)
    · exact key false s h0' h19 (fun _ h => absurd (by omega) hz) (fun w => npP_run s w h0' hmb hne h19 h0' (Or.inl (by simpa using hz))) (fun h => by cases h) (fun _ => ⟨rfl, hno⟩)
end Go.Proofs.YtmpkgbpnejajpaaDoor
