/- XNp.lean.tpl: what is asked of elder texts. Conditions: as each says. -/
import Derived.Lib.ParseIntB
import Derived.Lib.ParseIntBTie
import Derived.Lib.ItoaNum
import Derived.Lib.Bytealg
import Derived.IntWalk
import Derived.Lib.AppendIntMem
import Derived.Lib.AtoiErrMem
import Derived.ShutString
import Derived.RegionTactic
import Derived.ChangeAlike
import Derived.Test.YtdmgaaaomleojaaGreatDoorGrew
import Derived.Test.YtdmgaaaomleojaaGreatDoorShelf
namespace Go.Proofs.YtdmgaaaomleojaaGreatDoor
open Go.RowKit
def isDig (c : UInt8) : Prop := 48 ≤ c.toNat ∧ c.toNat ≤ 57
def valF (acc : Nat) : List UInt8 → Nat
  | [] => acc
  | c :: r => valF (acc * 10 + (c.toNat - 48)) r
theorem valF_append (a : Nat) (l r : List UInt8) : valF a (l ++ r) = valF (valF a l) r := by
  induction l generalizing a with
  | nil => rfl
  | cons c l ih => exact ih _
theorem valF_ge (a : Nat) (l : List UInt8) : a ≤ valF a l := by
  induction l generalizing a with
  | nil => exact Nat.le_refl _
  | cons c l ih => exact Nat.le_trans (by omega) (ih _)
theorem dig_toNat (d : Nat) (h : d < 10) : (UInt8.ofNat (48 + d)).toNat = 48 + d := by
  rw [UInt8.toNat_ofNat']; omega
theorem dd_spec (u : Nat) : valF 0 (Lib.decDigits u) = u ∧ (∀ c ∈ Lib.decDigits u, isDig c) ∧ Lib.decDigits u ≠ [] ∧ (0 < u → ∃ c r, Lib.decDigits u = c :: r ∧ c.toNat ≠ 48) := by
  induction u using Nat.strongRecOn with
  | _ u ih =>
    by_cases h : u < 10
    · clear ih
      have hd := dig_toNat u h
      have e := Lib.decDigits_one h
      generalize UInt8.ofNat (48 + u) = c at hd e
      rw [e]
      have p1 : valF 0 [c] = u := by
        show 0 * 10 + (c.toNat - 48) = u
        omega
      have p2 : ∀ d ∈ [c], isDig d := fun d hc => by
        have : d = c := by simpa using hc
        rw [this]; unfold isDig; omega
      have p3 : [c] ≠ ([] : List UInt8) := List.cons_ne_nil _ _
      exact ⟨p1, p2, p3, fun _ => ⟨c, [], rfl, by omega⟩⟩
    · have e : Lib.decDigits u = Lib.decDigits (u / 10) ++ [UInt8.ofNat (48 + u % 10)] := by rw [Lib.decDigits, dif_neg h]
      obtain ⟨h1, h2, h3, h4⟩ := ih (u / 10) (by omega)
      clear ih
      have hd := dig_toNat (u % 10) (by omega)
      generalize UInt8.ofNat (48 + u % 10) = d at hd e
      rw [e]
      have p1 : valF 0 (Lib.decDigits (u / 10) ++ [d]) = u := by
        rw [valF_append, h1]
        show u / 10 * 10 + (d.toNat - 48) = u
        omega
      have p2 : ∀ c ∈ Lib.decDigits (u / 10) ++ [d], isDig c := fun c hc => by
        rcases List.mem_append.1 hc with hc | hc
        · exact h2 c hc
        · have : c = d := by simpa using hc
          rw [this]; unfold isDig; omega
      have p3 : Lib.decDigits (u / 10) ++ [d] ≠ [] := by simp
      have p4 : 0 < u → ∃ c r, Lib.decDigits (u / 10) ++ [d] = c :: r ∧ c.toNat ≠ 48 := fun _ => by
        obtain ⟨c, r, e1, e2⟩ := h4 (by omega)
        exact ⟨c, r ++ [d], by rw [e1]; rfl, e2⟩
      exact ⟨p1, p2, p3, p4⟩
theorem dd_val (u : Nat) : valF 0 (Lib.decDigits u) = u := (dd_spec u).1
theorem dd_dig (u : Nat) : ∀ c ∈ Lib.decDigits u, isDig c := (dd_spec u).2.1
theorem dd_ne (u : Nat) : Lib.decDigits u ≠ [] := (dd_spec u).2.2.1
theorem dd_cons (u : Nat) : ∃ c r, Lib.decDigits u = c :: r ∧ isDig c := by
  cases h : Lib.decDigits u with
  | nil => exact absurd h (dd_ne u)
  | cons c r => exact ⟨c, r, rfl, dd_dig u c (by rw [h]; simp)⟩
theorem dd_inj {u v : Nat} (h : Lib.decDigits u = Lib.decDigits v) : u = v := by rw [← dd_val u, ← dd_val v, h]
theorem dd_ne_minus (u : Nat) (r : List UInt8) : Lib.decDigits u ≠ 45 :: r := fun e => by
  obtain ⟨c, q, e1, e2⟩ := dd_cons u
  rw [e1] at e
  have : c = 45 := (List.cons.inj e).1
  subst this
  exact absurd e2 (by unfold isDig; decide)
theorem itoa_nil (n : Int) : Lib.itoa n ≠ [] := by
  unfold Lib.itoa
  split
  · exact List.cons_ne_nil _ _
  · exact dd_ne _
theorem itoa_inj {x y : Int} (h : Lib.itoa x = Lib.itoa y) : x = y := by
  unfold Lib.itoa at h
  split at h
  · split at h
    · have := dd_inj (List.cons.inj h).2
      omega
    · exact absurd h.symm (dd_ne_minus _ _)
  · split at h
    · exact absurd h (dd_ne_minus _ _)
    · have := dd_inj h
      omega
theorem nDigits_bd (k u : Nat) (h : u < 10 ^ (k + 1)) : Lib.nDigits u ≤ k + 1 := by
  induction k generalizing u with
  | zero => rw [Lib.nDigits, dif_pos (by simpa using h)]; omega
  | succ k ih =>
    rw [Lib.nDigits]
    split
    · omega
    · have : u / 10 < 10 ^ (k + 1) := by
        rw [Nat.div_lt_iff_lt_mul (by omega)]
        rw [Nat.pow_succ] at h
        exact h
      have := ih _ this
      omega
theorem dd_len (u : Nat) (h : u < 10000000000000000000) : (Lib.decDigits u).length ≤ 19 := by
  rw [Lib.decDigits_length]
  exact nDigits_bd 18 u (by simpa using h)
theorem itoa_len (n : Int) (h0 : -9223372036854775808 ≤ n) (h1 : n ≤ 9223372036854775807) : (Lib.itoa n).length ≤ 20 := by
  unfold Lib.itoa
  split
  · have := dd_len n.natAbs (by omega)
    simp; omega
  · have := dd_len n.toNat (by omega)
    omega
theorem pum_digits (M : Nat) (l : List UInt8) (hl : ∀ c ∈ l, isDig c) (acc : Nat) (h : valF acc l ≤ M) (h2 : valF acc l < 18446744073709551615) : Lib.parseUintM M acc l = .ok (valF acc l) := by
  induction l generalizing acc with
  | nil => rfl
  | cons c l ih =>
    have hc : 48 ≤ c.toNat ∧ c.toNat ≤ 57 := hl c (by simp)
    have h1 : valF (acc * 10 + (c.toNat - 48)) l ≤ M := h
    have h3 : valF (acc * 10 + (c.toNat - 48)) l < 18446744073709551615 := h2
    have h4 := valF_ge (acc * 10 + (c.toNat - 48)) l
    unfold Lib.parseUintM
    rw [if_pos hc, if_neg (by omega), if_neg (by omega)]
    exact ih (fun d hd => hl d (by simp [hd])) _ h1 h3
theorem pub64 (u : Nat) (hu : u ≤ 9223372036854775808) : Lib.parseUintB 64 (Lib.decDigits u) = .ok u := by
  have e : (2 : Nat) ^ 64 - 1 = 18446744073709551615 := by decide
  unfold Lib.parseUintB
  rw [if_neg (dd_ne u), e, pum_digits _ _ (dd_dig u) 0 (by rw [dd_val]; omega) (by rw [dd_val]; omega), dd_val]
/-- A number's numeral is read as it. -/
theorem pib64 (E : Int) (h0 : -9223372036854775808 ≤ E) (h1 : E ≤ 9223372036854775807) : Lib.parseIntB 64 (Lib.itoa E) = .ok E := by
  have e : (2 : Nat) ^ (64 - 1) = 9223372036854775808 := by decide
  unfold Lib.itoa
  split
  · rename_i hn
    unfold Lib.parseIntB
    simp only
    rw [if_pos (by right; decide), pub64 E.natAbs (by omega)]
    simp only [e]
    rw [if_neg (by simp), if_neg (by omega), if_pos (by decide)]
    congr 1
    omega
  · rename_i hn
    obtain ⟨c, r, e1, e2⟩ := dd_cons E.toNat
    have hp := pub64 E.toNat (by omega)
    rw [e1] at hp
    rw [e1]
    unfold isDig at e2
    unfold Lib.parseIntB
    simp only
    rw [if_neg (by omega), hp]
    simp only [e]
    rw [if_neg (by omega), if_neg (by omega), if_neg (by omega)]
    congr 1
    omega
theorem pib64_rg (l : List UInt8) (v : Int) (h : Lib.parseIntB 64 l = .ok v) : -9223372036854775808 ≤ v ∧ v ≤ 9223372036854775807 := by
  have e : (2 : Nat) ^ (64 - 1) = 9223372036854775808 := by decide
  have := Lib.parseIntB_bounds h
  rw [e] at this
  omega
/-- Whose numeral a text is: of 64 bits. -/
def NumIs (l : List UInt8) (n : Int) : Prop := Lib.itoa n = l ∧ -9223372036854775808 ≤ n ∧ n ≤ 9223372036854775807
theorem NumIs.one {l : List UInt8} {n m : Int} (h : NumIs l n) (g : NumIs l m) : n = m := itoa_inj (h.1.trans g.1.symm)
theorem NumIs.itoa (n : Int) (h0 : -9223372036854775808 ≤ n) (h1 : n ≤ 9223372036854775807) : NumIs (Lib.itoa n) n := ⟨rfl, h0, h1⟩
/-- The table of powers of ten. -/
def Tabs (w : World) : Prop := Lib.TabIs Tryz.prog w "internal/strconv.uint64pow10" .u64 Lib.pow10Tab
theorem globPow : Tryz.prog.globalNamed "internal/strconv.uint64pow10" = some 5 := by kernel_rfl
theorem Tabs.below {w w' : World} (h : Tabs w) (hb : Below w.heap.size w w') : Tabs w' := var_below hb globPow h
theorem text_any (n : Int) (h0 : -9223372036854775808 ≤ n) (h1 : n ≤ 9223372036854775807) (w : World) (ht : Tabs w) :
    Calls Tryz.prog 37 #[.int .i64 n] w (Grew (.string ⟨(Lib.itoa n).toArray⟩) w) := by
  have H := Lib.hid (Tryz.strconv_FormatInt_10 n h0 h1 w ht)
  clear ht
  go_enter Tryz.func37, Tryz.ntmps37
  go_wp2_with fail
  refine H.out.mono ?_
  rintro e w' ⟨rfl, k, os, rfl⟩
  go_wp2_with fail
  go_ret
  exact ⟨rfl, Lib.below_grow _ _ (Nat.le_refl _) _ _⟩
/-- The variables of errors that reading a number names. -/
structure Errs (w : World) : Prop where
  syn : ∃ tp p, w.var? Tryz.prog "strconv.ErrSyntax" = some #[.iface tp p]
  rng : ∃ tp p, w.var? Tryz.prog "strconv.ErrRange" = some #[.iface tp p]
theorem globSyn : Tryz.prog.globalNamed "strconv.ErrSyntax" = some 6 := by kernel_rfl
theorem globRng : Tryz.prog.globalNamed "strconv.ErrRange" = some 7 := by kernel_rfl
theorem globNum : Tryz.prog.globalNamed "gristmill/api.ErrNumber" = some 3 := by kernel_rfl
theorem Errs.below {w w' : World} (h : Errs w) (hb : Below w.heap.size w w') : Errs w' := by
  obtain ⟨⟨t1, p1, e1⟩, ⟨t2, p2, e2⟩⟩ := h
  exact ⟨⟨t1, p1, var_below hb globSyn e1⟩, ⟨t2, p2, var_below hb globRng e2⟩⟩
/-- ParseInt of a numeral of 64 bits. -/
theorem pi_ok (s : ByteArray) (hlim : s.size ≤ 281474976710656) (v : Int) (h : Lib.parseIntB 64 s.data.toList = .ok v) (w : World) :
    Calls Tryz.prog 69 #[.string s, .int .i64 10, .int .i64 64] w (Grew (.tuple #[.int .i64 v, .nilIface]) w) :=
  (Tryz.strconv_ParseInt_10_at64_ok s (by omega) v h w).mono fun _ _ ⟨he, hw⟩ => ⟨he, by
    rcases hw with rfl | ⟨t, rfl⟩
    · exact Below.refl _ _
    · exact Lib.bytesWorld_below _ _ _⟩
/-- A number, and an error that is not nil. -/
def Fell (w : World) (e : Ending) (w' : World) : Prop := ∃ (x : Int) (N : Nat), e = .returned (.tuple #[.int .i64 x, .iface 126 (.pointer (some ⟨N, 0, none⟩))]) ∧ Below w.heap.size w w'
theorem ends (r : Lib.NumEnd Int) : (∃ v, r = .ok v) ∨ r = Lib.parseIntB 64 [] ∨ r = .range := by
  cases r
  · exact Or.inl ⟨_, rfl⟩
  · exact Or.inr (Or.inl rfl)
  · exact Or.inr (Or.inr rfl)
theorem pi_bad (s : ByteArray) (hlim : s.size ≤ 281474976710656) (h : ∀ v, Lib.parseIntB 64 s.data.toList ≠ .ok v) (w : World) (he : Errs w) :
    Calls Tryz.prog 69 #[.string s, .int .i64 10, .int .i64 64] w (Fell w) := by
  rcases ends (Lib.parseIntB 64 s.data.toList) with ⟨v, hc⟩ | hc | hc
  · exact absurd hc (h v)
  · obtain ⟨tp, p, hv⟩ := he.syn
    exact (Tryz.strconv_ParseInt_10_at64_syntax_var s hlim hc tp p w hv).mono fun _ _ ⟨N, he, _, _, hb⟩ => ⟨_, N, he, hb⟩
  · obtain ⟨tp, p, hv⟩ := he.rng
    exact (Tryz.strconv_ParseInt_10_at64_range_var s hlim hc tp p w hv).mono fun _ _ ⟨N, he, _, _, hb⟩ => ⟨_, N, he, hb⟩
set_option maxRecDepth 100000 in
set_option maxHeartbeats 1000000 in
theorem parse_long (s : ByteArray) (tp : TypeId) (p : Value) (w : World) (hl : 20 < s.size) (hv : w.cell? ⟨3, 0, none⟩ = some (.iface tp p)) :
    Calls Tryz.prog 48 #[.string s] w (Grew (.tuple #[.int .i64 0, .iface tp p]) w) := by
  go_enter Tryz.func48, Tryz.ntmps48
  go_wp2_with fail
  go_region
  all_goals
    go_wp2
    go_ret2
    exact ⟨rfl, Below.drew (Below.refl _ _)⟩
set_option maxRecDepth 100000 in
set_option maxHeartbeats 1000000 in
theorem parse_fell (s : ByteArray) (tp : TypeId) (p : Value) (w : World) (hl : ¬ 20 < s.size)
    (hv : ∀ w1, Below w.heap.size w w1 → w1.cell? ⟨3, 0, none⟩ = some (.iface tp p))
    (h1 : Calls Tryz.prog 69 #[.string s, .int .i64 10, .int .i64 64] w (Fell w)) :
    Calls Tryz.prog 48 #[.string s] w (Grew (.tuple #[.int .i64 0, .iface tp p]) w) := by
  have HV := Lib.hid hv
  have H1 := Lib.hid h1
  clear hv h1
  go_enter Tryz.func48, Tryz.ntmps48
  go_wp2_with fail
  refine H1.out.mono ?_
  rintro e w1 ⟨x, N, rfl, hb1⟩
  have hc := HV.out w1 hb1
  go_wp2_with fail
  go_region
  all_goals
    go_wp2
    go_ret2
    exact ⟨rfl, Below.drew hb1⟩
set_option maxRecDepth 100000 in
set_option maxHeartbeats 1000000 in
theorem parse_differs (s x : ByteArray) (v : Int) (tp : TypeId) (p : Value) (w : World) (hl : ¬ 20 < s.size) (hx : (x.toList == s.toList) = false)
    (hv : ∀ w1, Below w.heap.size w w1 → w1.cell? ⟨3, 0, none⟩ = some (.iface tp p))
    (h1 : Calls Tryz.prog 69 #[.string s, .int .i64 10, .int .i64 64] w (Grew (.tuple #[.int .i64 v, .nilIface]) w))
    (h2 : ∀ w1, Below w.heap.size w w1 → Calls Tryz.prog 37 #[.int .i64 v] w1 (Grew (.string x) w1)) :
    Calls Tryz.prog 48 #[.string s] w (Grew (.tuple #[.int .i64 0, .iface tp p]) w) := by
  have HV := Lib.hid hv
  have H1 := Lib.hid h1
  have H2 := Lib.hid h2
  clear hv h1 h2
  go_enter Tryz.func48, Tryz.ntmps48
  go_wp2_with fail
  refine H1.out.mono ?_
  rintro e w1 ⟨rfl, hb1⟩
  go_wp2_with fail
  refine (H2.out w1 hb1).mono ?_
  rintro e w2 ⟨rfl, hb2⟩
  have hb := hb1.trans (hb2.mono hb1.size)
  have hc := HV.out w2 hb
  go_wp2_with fail
  go_region
  all_goals
    go_wp2
    go_ret2
    exact ⟨rfl, Below.drew hb⟩
set_option maxRecDepth 100000 in
set_option maxHeartbeats 1000000 in
theorem parse_same (s x : ByteArray) (v : Int) (w : World) (hl : ¬ 20 < s.size) (hx : (x.toList == s.toList) = true)
    (h1 : Calls Tryz.prog 69 #[.string s, .int .i64 10, .int .i64 64] w (Grew (.tuple #[.int .i64 v, .nilIface]) w))
    (h2 : ∀ w1, Below w.heap.size w w1 → Calls Tryz.prog 37 #[.int .i64 v] w1 (Grew (.string x) w1)) :
    Calls Tryz.prog 48 #[.string s] w (Grew (.tuple #[.int .i64 v, .nilIface]) w) := by
  have H1 := Lib.hid h1
  have H2 := Lib.hid h2
  clear h1 h2
  go_enter Tryz.func48, Tryz.ntmps48
  go_wp2_with fail
  refine H1.out.mono ?_
  rintro e w1 ⟨rfl, hb1⟩
  go_wp2_with fail
  refine (H2.out w1 hb1).mono ?_
  rintro e w2 ⟨rfl, hb2⟩
  have hb := hb1.trans (hb2.mono hb1.size)
  go_wp2_with fail
  go_ret2
  exact ⟨rfl, hb⟩
/-- PARSE, of a number's numeral. -/
theorem parse_yes (s : ByteArray) (v : Int) (hn : NumIs s.data.toList v) (w : World) (ht : Tabs w) :
    Calls Tryz.prog 48 #[.string s] w (Grew (.tuple #[.int .i64 v, .nilIface]) w) := by
  obtain ⟨h1, h2, h3⟩ := hn
  have hsz : s.size = (Lib.itoa v).length := by rw [h1, Lib.size_eq]
  have hl := itoa_len v h2 h3
  refine parse_same s ⟨(Lib.itoa v).toArray⟩ v w (by omega) (by rw [ByteArray.toList_eq, ByteArray.toList_eq]; simpa using h1) (pi_ok s (by omega) v (by rw [← h1]; exact pib64 v h2 h3) w) fun w1 hb => text_any v h2 h3 w1 (ht.below hb)
/-- PARSE, of any other text. -/
theorem parse_none (s : ByteArray) (hs : ∀ v, ¬ NumIs s.data.toList v) (tp : TypeId) (p : Value) (w : World) (ht : Tabs w) (he : Errs w) (hv : w.var? Tryz.prog "gristmill/api.ErrNumber" = some #[.iface tp p]) :
    Calls Tryz.prog 48 #[.string s] w (Grew (.tuple #[.int .i64 0, .iface tp p]) w) := by
  have hc : ∀ w1, Below w.heap.size w w1 → w1.cell? ⟨3, 0, none⟩ = some (.iface tp p) := fun w1 hb => cell_of_var globNum (var_below hb globNum hv)
  by_cases hl : 20 < s.size
  · exact parse_long s tp p w hl (hc w (Below.refl _ _))
  by_cases h : ∃ v, Lib.parseIntB 64 s.data.toList = .ok v
  · obtain ⟨v, h⟩ := h
    obtain ⟨r0, r1⟩ := pib64_rg _ _ h
    refine parse_differs s ⟨(Lib.itoa v).toArray⟩ v tp p w hl ?_ hc (pi_ok s (by omega) v h w) fun w1 hb => text_any v r0 r1 w1 (ht.below hb)
    rw [ByteArray.toList_eq, ByteArray.toList_eq, beq_eq_false_iff_ne]
    intro e
    exact hs v ⟨by simpa using e, r0, r1⟩
  · exact parse_fell s tp p w hl hc (pi_bad s (by omega) (fun v hv => h ⟨v, hv⟩) w he)
end Go.Proofs.YtdmgaaaomleojaaGreatDoor
