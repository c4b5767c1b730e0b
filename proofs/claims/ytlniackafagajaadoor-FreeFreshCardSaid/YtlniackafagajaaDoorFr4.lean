/- FreeFresh, walked. Conditions: the table of powers of ten as start-up lays it; 64 bits. -/
import Derived.Test.YtlniackafagajaaDoorFr3
import Derived.Test.YtlniackafagajaaDoorNumber
namespace Go.Proofs.YtlniackafagajaaDoor
open Go.RowKit Go.Maps

def usedL (base : ByteArray) (r : Nat) : List ByteArray := (List.range r).map (frB base)
theorem usedL_len (base : ByteArray) (r : Nat) : (usedL base r).length = r := by simp [usedL]
theorem usedL_succ (base : ByteArray) (r : Nat) : usedL base (r + 1) = usedL base r ++ [frB base r] := by simp [usedL, List.range_succ]
theorem usedL_has (base : ByteArray) (r j : Nat) : hasB (usedL base r) (frB base j) = true ↔ j < r := by
  rw [hasB_mem]
  unfold usedL
  constructor
  · intro h
    obtain ⟨i, hi, e⟩ := List.mem_map.1 h
    have := frB_inj base e
    have := List.mem_range.1 hi
    omega
  · intro h
    exact List.mem_map.2 ⟨j, List.mem_range.2 h, rfl⟩
theorem usedL_size (base : ByteArray) (hb : base.size ≤ 40) (r : Nat) (hr : r ≤ 20) : ∀ s ∈ usedL base r, s.size ≤ maxLen := fun s hs => by
  obtain ⟨i, hi, rfl⟩ := List.mem_map.1 hs
  have := List.mem_range.1 hi
  have := frB_size base i (by omega)
  unfold maxLen
  omega
theorem fresh_one (base : ByteArray) (r j : Nat) (h1 : ∀ k, k < j → hasB (usedL base r) (frB base k) = true) (h2 : hasB (usedL base r) (frB base j) = false) : j = r := by
  rcases Nat.lt_trichotomy j r with h | h | h
  · rw [(usedL_has base r j).2 h] at h2; cases h2
  · exact h
  · have := (usedL_has base r r).1 (h1 r h)
    omega
theorem fresh_two (base : ByteArray) (r j : Nat) (l : List ByteArray) (h1 : ∀ k, k < j → hasB (usedL base r ++ l) (frB base k) = true) (h2 : hasB (usedL base r ++ l) (frB base j) = false) (h3 : hasB l (frB base r) = false) : j = r := by
  have hr : hasB (usedL base r ++ l) (frB base r) = false := by
    rw [hasB_append, h3, Bool.or_false]
    cases h : hasB (usedL base r) (frB base r)
    · rfl
    · have := (usedL_has base r r).1 h; omega
  rcases Nat.lt_trichotomy j r with h | h | h
  · rw [hasB_append, (usedL_has base r j).2 h] at h2; cases h2
  · exact h
  · have := h1 r h
    rw [hr] at this
    cases this

set_option maxRecDepth 100000 in
set_option maxHeartbeats 4000000 in
theorem freeFresh_core (base : ByteArray) (x : Int) (l : List ByteArray) (ao : Option Addr) (m cap : Nat) (hm : m = l.length) (hb : base.size ≤ 40) (hm10 : m ≤ 10) (hcap : ao = none → m = 0 ∧ cap = 0) (w : World) (hl : NmAt w w.heap.size ao l) (ht : Tabs w)
    (H0 : Hid (Calls Tryd.prog 4 #[] w (Grew (.bool true) w))) :
    Calls Tryd.prog 3 #[.string base, .int .i64 x, .slice ao m cap] w (Grew (.bool true) w) := by
  have HN := Lib.hid hm
  have HL := Lib.hid hl
  have HT := Lib.hid ht
  have HC := Lib.hid hcap
  obtain ⟨i0, hi, hz0, hz1, hz2⟩ := info_parts infoStr
  have hb1 : (base.size : Int) ≤ 40 := by omega
  have hm1 : (m : Int) ≤ 10 := by omega
  have hb2 : ¬ (40 : Int) < (base.size : Int) := by omega
  have hm2 : ¬ (10 : Int) < (m : Int) := by omega
  clear hm hl ht hcap
  go_enter Tryd.func3, Tryd.ntmps3
  go_wp2_with fail
  refine H0.out.mono ?_
  rintro e w0 ⟨rfl, hw0⟩
  have HB0 := Lib.hid hw0
  clear hw0
  go_wp2_with fail
  refine (number_any x 20 (by decide) (by decide) w0).mono ?_
  rintro e w' ⟨rfl, rfl⟩
  obtain ⟨r, hr⟩ : ∃ r : Nat, x % 20 = (r : Int) := ⟨(x % 20).toNat, by omega⟩
  have hr20 : r < 20 := by omega
  rw [hr]
  clear hr
  go_wp2_with fail
  go_loopw [8, 9] (fun vu vi wr => ∃ (i : Nat) (a : Option Addr) (c : Nat), i ≤ r ∧ vu = .slice a i c ∧ vi = .int .i64 i ∧ Hid (wr.ownsRow w.heap.size 9 1 (.slice a i c) i ((usedL base i).map .string) ∧ Below w.heap.size w wr)) (fun _ vi _ => r + 1 - (intOf vi).toNat)
  case atStart => exact ⟨0, none, 0, by omega, rfl, rfl, Lib.hid ⟨World.ownsRow_nil _ _ _ _, HB0.out⟩⟩
  case round =>
    obtain ⟨i, a, c, hir, rfl, rfl, hR⟩ := hrel
    by_cases hi' : i < r
    · have hiz : (i : Int) < (r : Int) := by omega
      have hi0 : (0 : Int) ≤ (i : Int) := by omega
      have H3 := Lib.hid (num_any (i : Int) (by omega) (by omega) wr (HT.out.below hR.out.2))
      have zi := itoa_len (i : Int) (by omega) (by omega)
      obtain ⟨t, ht⟩ : ∃ t : ByteArray, t = ⟨(Lib.itoa (i : Int)).toArray⟩ := ⟨_, rfl⟩
      have zt : t.size ≤ 20 := by rw [ht]; exact zi
      rw [← ht] at H3
      have HT2 := Lib.hid ht
      clear ht zi
      have D3 : i + 1 ≤ maxLen := by unfold maxLen; omega
      have D4 : (i + 1) * 16 ≤ 140737488355328 := by omega
      by_cases hz : i = 0
      · have hzz : ¬ (0 : Int) < (i : Int) := by omega
        have HZ := Lib.hid hz
        clear hz
        have oA := hR.out.1.alloc (.cells #[.string base] 9)
        have D2 : ∀ u ∈ ([.string base] : List Value), u.oneCell' = true := by intro u hu; simp at hu; subst hu; rfl
        have D5 : w.heap.size ≤ (wr.alloc (.cells #[.string base] 9)).heap.size := by have := hR.out.2.size; simp; omega
        go_wp2_with (first
          | (at_builtin; refine wpList_append_own _ rfl _ _ 22 rfl w.heap.size 9 i0 (.string ⟨#[]⟩) 1 16 Tryd.underlying22 hi hz0 hz1 hz2 rfl (by decide) _ _ _ rfl oA ⟨wr.heap.size, 0, none⟩ 1 1 [.string base] rfl rfl (cell_one_new _ _ _) D2 D3 D4 D5 ?_
             intro v4 w4 oA4 gr4 _
             have hrow4 : ∀ q, some q = (Value.slice a i c).ownBlock → w.heap.size ≤ q := fun q hq => (oA.lt q hq.symm).1
             have HB4 := Lib.hid ((hR.out.2.alloc hR.out.2.size (.cells #[.string base] 9)).grown gr4 D5 (fun q hq => hrow4 q hq.symm))
             have OA4 := Lib.hid oA4
             obtain ⟨aA4, cA4, rfl⟩ := slice_of_owns oA4
             clear oA4 gr4 hrow4))
        go_roundw
        case rel =>
          refine ⟨i + 1, aA4, cA4, by omega, rfl, by go_num, Lib.hid ⟨?_, HB4.out⟩⟩
          rw [usedL_succ, List.map_append]
          have := OA4.out
          have e := HZ.out
          clear HZ
          subst e
          exact this
        case measure => simp [intOf]; omega
      · have hzz : (0 : Int) < (i : Int) := by omega
        go_wp2_with fail
        refine H3.out.mono ?_
        rintro e w3 ⟨rfl, hb3⟩
        have HB3 := Lib.hid (hR.out.2.trans (hb3.mono hR.out.2.size))
        have hO3 : w3.ownsRow w.heap.size 9 1 (.slice a i c) i ((usedL base i).map .string) := hR.out.1.kept (grown_of hb3) (by cases h : (Value.slice a i c).ownBlock <;> simp)
        clear hb3
        have hsb := frB_succ base i (by omega)
        rw [← HT2.out] at hsb
        have HSB := Lib.hid hsb
        have oA := hO3.alloc (.cells #[.string (base ++ ⟨#[95]⟩ ++ t)] 9)
        have D2 : ∀ u ∈ ([.string (base ++ ⟨#[95]⟩ ++ t)] : List Value), u.oneCell' = true := by intro u hu; simp only [List.mem_singleton] at hu; subst hu; rfl
        have D5 : w.heap.size ≤ (w3.alloc (.cells #[.string (base ++ ⟨#[95]⟩ ++ t)] 9)).heap.size := by have := HB3.out.size; simp; omega
        clear hsb
        go_wp2_with (first
          | (at_builtin; refine wpList_append_own _ rfl _ _ 22 rfl w.heap.size 9 i0 (.string ⟨#[]⟩) 1 16 Tryd.underlying22 hi hz0 hz1 hz2 rfl (by decide) _ _ _ rfl oA ⟨w3.heap.size, 0, none⟩ 1 1 [.string (base ++ ⟨#[95]⟩ ++ t)] rfl rfl (cell_one_new _ _ _) D2 D3 D4 D5 ?_
             intro v4 w4 oA4 gr4 _
             have hrow4 : ∀ q, some q = (Value.slice a i c).ownBlock → w.heap.size ≤ q := fun q hq => (oA.lt q hq.symm).1
             have HB4 := Lib.hid ((HB3.out.alloc HB3.out.size (.cells #[.string (base ++ ⟨#[95]⟩ ++ t)] 9)).grown gr4 D5 (fun q hq => hrow4 q hq.symm))
             have OA4 := Lib.hid oA4
             obtain ⟨aA4, cA4, rfl⟩ := slice_of_owns oA4
             clear oA4 gr4 hrow4))
        go_roundw
        case rel =>
          refine ⟨i + 1, aA4, cA4, by omega, rfl, by go_num, Lib.hid ⟨?_, HB4.out⟩⟩
          rw [usedL_succ, List.map_append, HSB.out]
          exact OA4.out
        case measure => simp [intOf]; omega
    · obtain rfl : i = r := by omega
      go_wp2_with fail
      refine (fresh_any base (usedL base i) a i c (by rw [usedL_len]) (by omega) wr (by omega) (nm_of_row hR.out.1 (usedL_size base (by omega) i (by omega))) (HT.out.below hR.out.2)).mono ?_
      rintro e w1 ⟨j, hj, k1, k2, rfl, hb1⟩
      have hji := fresh_one base i j k1 k2
      have HB1 := Lib.hid (hR.out.2.trans (hb1.mono hR.out.2.size))
      have HO1 : Hid (w1.ownsRow w.heap.size 9 1 (.slice a i c) i ((usedL base i).map .string)) := Lib.hid (hR.out.1.kept (grown_of hb1) (by cases h : (Value.slice a i c).ownBlock <;> simp))
      rw [hji]
      clear hji k1 k2 hj hb1
      obtain ⟨W, hW⟩ : ∃ W, W = frB base i := ⟨_, rfl⟩
      rw [← hW]
      have HWs := Lib.hid hW
      clear hW
      by_cases hz : i = 0
      · have hzz : ¬ (0 : Int) < (i : Int) := by omega
        have HWb : Hid (base = W) := Lib.hid (by rw [HWs.out, hz]; rfl)
        clear hz
        have hfv : (W.toList == base.toList) = true := by rw [HWb.out]; simp
        obtain ⟨w2, hw2⟩ : ∃ w2, w2 = w1 := ⟨_, rfl⟩
        have HB2 : Hid (Below w.heap.size w w2) := Lib.hid (by rw [hw2]; exact HB1.out)
        have HO2 : Hid (w2.ownsRow w.heap.size 9 1 (.slice a i c) i ((usedL base i).map .string)) := Lib.hid (by rw [hw2]; exact HO1.out)
        go_wp2_with fail
        rw [← hw2]
        clear hw2
        refine (texts_any (usedL base i) a i c (by rw [usedL_len]) w2 (by omega) (nm_of_row HO2.out (usedL_size base (by omega) i (by omega)))).mono ?_
        rintro e w3 ⟨a3, c3, rfl, ho3, hb3⟩
        have HB3 := Lib.hid (HB2.out.trans (hb3.mono HB2.out.size))
        have HO3 := Lib.hid ho3
        have HB23 := Lib.hid hb3
        clear ho3 hb3
        have D3 : i + m ≤ maxLen := by unfold maxLen; omega
        have D4 : (i + m) * 16 ≤ 140737488355328 := by omega
        have D5 : w2.heap.size ≤ w3.heap.size := HB23.out.size
        go_wp2_with (first
          | (at_builtin; refine wpList_append_nm _ rfl _ _ 22 rfl w2.heap.size 9 i0 (.string ⟨#[]⟩) 16 Tryd.underlying22 hi hz0 hz1 hz2 rfl _ _ _ rfl HO3.out w.heap.size ao l m cap rfl HN.out (HL.out.below HB3.out) HC.out D3 D4 D5 ?_
             intro v4 w4 oA4 gr4
             have HB4 := Lib.hid (HB3.out.grown gr4 HB3.out.size (fun q hq => Nat.le_trans HB2.out.size (HO3.out.lt q hq).1))
             have HO4 : Hid (w4.ownsRow w2.heap.size 9 1 v4 (i + m) ((usedL base i ++ l).map .string)) := Lib.hid (by rw [List.map_append]; exact oA4)
             obtain ⟨aA4, cA4, rfl⟩ := slice_of_owns oA4
             clear oA4 gr4))
        have hln : i + m = (usedL base i ++ l).length := by rw [List.length_append, usedL_len, HN.out]
        have hsz : ∀ s ∈ usedL base i ++ l, s.size ≤ maxLen := fun s hs => by
          rcases List.mem_append.1 hs with h | h
          · exact usedL_size base (by omega) i (by omega) s h
          · obtain ⟨q, hq, rfl⟩ := List.getElem_of_mem h
            exact (HL.out q hq).1
        have NM4 := Lib.hid (nm_of_row HO4.out hsz)
        have HLN := Lib.hid hln
        clear hln hsz
        refine (fresh_any base (usedL base i ++ l) aA4 (i + m) cA4 HLN.out (by omega) w4 (by omega) NM4.out (HT.out.below HB4.out)).mono ?_
        rintro e w5 ⟨j2, hj2, q1, q2, rfl, hb5⟩
        have HB5 := Lib.hid (HB4.out.trans (hb5.mono HB4.out.size))
        have NM5 := Lib.hid (NM4.out.below hb5)
        have HL5 := Lib.hid (HL.out.below HB5.out)
        have HQ1 := Lib.hid q1
        have HQ2 := Lib.hid q2
        clear q1 q2 hb5
        go_wp2_with fail
        refine (has_nm (usedL base i ++ l) _ aA4 (i + m) cA4 HLN.out (frB base j2) w5 (by omega) NM5.out).mono ?_
        rintro e w6 ⟨rfl, rfl⟩
        rw [HQ2.out]
        go_wp2_with fail
        refine (has_nm l _ ao m cap HN.out base w5 (by omega) HL5.out).mono ?_
        rintro e w6 ⟨rfl, rfl⟩
        cases hx : hasB l base
        · have e := fresh_two base i j2 l HQ1.out HQ2.out (by rw [← HWs.out, (beq_bytes _ _).1 hfv]; exact hx)
          rw [e]
          have hgv : ((frB base i).toList == base.toList) = true := by rw [← HWs.out]; exact hfv
          go_wp2_with fail
          go_ret
          exact ⟨rfl, HB5.out⟩
        · go_wp2_with fail
          go_ret
          exact ⟨rfl, HB5.out⟩
      · have hzz : (0 : Int) < (i : Int) := by omega
        clear hz
        have H3 := Lib.hid (num_any (i : Int) (by omega) (by omega) w1 (HT.out.below HB1.out))
        have zi := itoa_len (i : Int) (by omega) (by omega)
        obtain ⟨t, ht⟩ : ∃ t : ByteArray, t = ⟨(Lib.itoa (i : Int)).toArray⟩ := ⟨_, rfl⟩
        have zt : t.size ≤ 20 := by rw [ht]; exact zi
        rw [← ht] at H3
        have hsb := frB_succ base i (by omega)
        rw [← ht, ← HWs.out] at hsb
        clear ht zi
        obtain ⟨V, hV⟩ : ∃ V, V = base ++ ⟨#[95]⟩ ++ t := ⟨_, rfl⟩
        have hfv : (W.toList == V.toList) = true := by rw [hsb, hV]; simp
        clear hsb
        go_wp2_with fail
        refine H3.out.mono ?_
        rintro e w2 ⟨rfl, hb2⟩
        have HB2 := Lib.hid (HB1.out.trans (hb2.mono HB1.out.size))
        have HO2 : Hid (w2.ownsRow w.heap.size 9 1 (.slice a i c) i ((usedL base i).map .string)) := Lib.hid (HO1.out.kept (grown_of hb2) (by cases h : (Value.slice a i c).ownBlock <;> simp))
        clear hb2
        go_wp2_with fail
        rw [← hV]
        clear hV
        refine (texts_any (usedL base i) a i c (by rw [usedL_len]) w2 (by omega) (nm_of_row HO2.out (usedL_size base (by omega) i (by omega)))).mono ?_
        rintro e w3 ⟨a3, c3, rfl, ho3, hb3⟩
        have HB3 := Lib.hid (HB2.out.trans (hb3.mono HB2.out.size))
        have HO3 := Lib.hid ho3
        have HB23 := Lib.hid hb3
        clear ho3 hb3
        have D3 : i + m ≤ maxLen := by unfold maxLen; omega
        have D4 : (i + m) * 16 ≤ 140737488355328 := by omega
        have D5 : w2.heap.size ≤ w3.heap.size := HB23.out.size
        go_wp2_with (first
          | (at_builtin; refine wpList_append_nm _ rfl _ _ 22 rfl w2.heap.size 9 i0 (.string ⟨#[]⟩) 16 Tryd.underlying22 hi hz0 hz1 hz2 rfl _ _ _ rfl HO3.out w.heap.size ao l m cap rfl HN.out (HL.out.below HB3.out) HC.out D3 D4 D5 ?_
             intro v4 w4 oA4 gr4
             have HB4 := Lib.hid (HB3.out.grown gr4 HB3.out.size (fun q hq => Nat.le_trans HB2.out.size (HO3.out.lt q hq).1))
             have HO4 : Hid (w4.ownsRow w2.heap.size 9 1 v4 (i + m) ((usedL base i ++ l).map .string)) := Lib.hid (by rw [List.map_append]; exact oA4)
             obtain ⟨aA4, cA4, rfl⟩ := slice_of_owns oA4
             clear oA4 gr4))
        have hln : i + m = (usedL base i ++ l).length := by rw [List.length_append, usedL_len, HN.out]
        have hsz : ∀ s ∈ usedL base i ++ l, s.size ≤ maxLen := fun s hs => by
          rcases List.mem_append.1 hs with h | h
          · exact usedL_size base (by omega) i (by omega) s h
          · obtain ⟨q, hq, rfl⟩ := List.getElem_of_mem h
            exact (HL.out q hq).1
        have NM4 := Lib.hid (nm_of_row HO4.out hsz)
        have HLN := Lib.hid hln
        clear hln hsz
        refine (fresh_any base (usedL base i ++ l) aA4 (i + m) cA4 HLN.out (by omega) w4 (by omega) NM4.out (HT.out.below HB4.out)).mono ?_
        rintro e w5 ⟨j2, hj2, q1, q2, rfl, hb5⟩
        have HB5 := Lib.hid (HB4.out.trans (hb5.mono HB4.out.size))
        have NM5 := Lib.hid (NM4.out.below hb5)
        have HL5 := Lib.hid (HL.out.below HB5.out)
        have HQ1 := Lib.hid q1
        have HQ2 := Lib.hid q2
        clear q1 q2 hb5
        go_wp2_with fail
        refine (has_nm (usedL base i ++ l) _ aA4 (i + m) cA4 HLN.out (frB base j2) w5 (by omega) NM5.out).mono ?_
        rintro e w6 ⟨rfl, rfl⟩
        rw [HQ2.out]
        go_wp2_with fail
        refine (has_nm l _ ao m cap HN.out V w5 (by omega) HL5.out).mono ?_
        rintro e w6 ⟨rfl, rfl⟩
        cases hx : hasB l V
        · have e := fresh_two base i j2 l HQ1.out HQ2.out (by rw [← HWs.out, (beq_bytes _ _).1 hfv]; exact hx)
          rw [e]
          have hgv : ((frB base i).toList == V.toList) = true := by rw [← HWs.out]; exact hfv
          go_wp2_with fail
          go_ret
          exact ⟨rfl, HB5.out⟩
        · go_wp2_with fail
          go_ret
          exact ⟨rfl, HB5.out⟩
end Go.Proofs.YtlniackafagajaaDoor
