/- Package free's Fresh: the first of a name's numbers that is not used. Conditions: the table of powers of ten as start-up lays it; 64 bits; lengths. -/
import Derived.Test.YtlniackafagajaaDoorFr1
import Derived.Test.YtlniackafagajaaDoorShelf
import Derived.Lib.AppendIntMem
import Derived.ShutString
namespace Go.Proofs.YtlniackafagajaaDoor
open Go.RowKit Go.Maps

/-- The table of powers of ten. -/
def Tabs (w : World) : Prop := Lib.TabIs Tryd.prog w "internal/strconv.uint64pow10" .u64 Lib.pow10Tab
theorem globPow : Tryd.prog.globalNamed "internal/strconv.uint64pow10" = some 0 := by kernel_rfl
theorem Tabs.below {w w' : World} (h : Tabs w) (hb : Below w.heap.size w w') : Tabs w' := var_below hb globPow h

theorem itoa_any (n : Int) (h0 : -9223372036854775808 ≤ n) (h1 : n ≤ 9223372036854775807) (w : World) (ht : Tabs w) :
    Calls Tryd.prog 16 #[.int .i64 n] w (Grew (.string ⟨(Lib.itoa n).toArray⟩) w) := by
  refine (Tryd.strconv_Itoa n h0 h1 w ht).mono ?_
  rintro e w' ⟨rfl, k, os, rfl⟩
  exact ⟨rfl, Lib.below_grow _ _ (Nat.le_refl _) _ _⟩
theorem num_any (n : Int) (h0 : -9223372036854775808 ≤ n) (h1 : n ≤ 9223372036854775807) (w : World) (ht : Tabs w) :
    Calls Tryd.prog 6 #[.int .i64 n] w (Grew (.string ⟨(Lib.itoa n).toArray⟩) w) := by
  have H := Lib.hid (itoa_any n h0 h1 w ht)
  clear ht
  go_enter Tryd.func6, Tryd.ntmps6
  go_wp2_with fail
  refine H.out.mono ?_
  rintro e w' ⟨rfl, hb⟩
  go_wp2_with fail
  go_ret
  exact ⟨rfl, hb⟩

theorem grown_of {w w' : World} (h : Below w.heap.size w w') : w.grownBy w' none := ⟨h.os, h.tape, h.output, h.size, fun k hk _ => h.block k hk⟩

set_option maxRecDepth 100000 in
set_option maxHeartbeats 1000000 in
theorem fresh_any (base : ByteArray) (l : List ByteArray) (ao : Option Addr) (n cap : Nat) (hn : n = l.length) (hb : base.size ≤ 1000000) (w : World) (hlen : n ≤ 1000000) (hl : NmAt w w.heap.size ao l) (ht : Tabs w) :
    Calls Tryd.prog 7 #[.string base, .slice ao n cap] w fun e w' => ∃ j : Nat, j ≤ n ∧ (∀ k, k < j → hasB l (frB base k) = true) ∧ hasB l (frB base j) = false ∧ e = .returned (.string (frB base j)) ∧ Below w.heap.size w w' := by
  have HN := Lib.hid hn
  have HT := Lib.hid ht
  have HL : Hid (NmAt (w.alloc (.cells #[.slice none 0 0, .map none] 41)) w.heap.size ao l) := Lib.hid fun i hi => by
    obtain ⟨h1, b, off, h2, h3, h4⟩ := hl i hi
    exact ⟨h1, b, off, h2, h3, by rw [World.cell?_of_block (a := ⟨b, off + i, none⟩) (Below.heap_alloc _ _ _ h3)]; exact h4⟩
  clear hl hn ht
  go_enter Tryd.func7, Tryd.ntmps7
  go_wp2_with fail
  refine (ladd_nil w.heap.size w.heap.size l ao n cap HN.out _ hlen (Nat.le_refl _) (by simp) (heap_alloc_new _ _) HL.out).mono ?_
  rintro e w1 ⟨rfl, hm1, hb1⟩
  have hm : Hid (LMt w1 w.heap.size w.heap.size (addAll [] l)) := Lib.hid hm1
  have HB1 := Lib.hid (((Below.refl w.heap.size w).alloc (Nat.le_refl _) (.cells #[.slice none 0 0, .map none] 41)).trans hb1)
  clear hm1 hb1
  go_wp2_with fail
  go_loopw [6, 7] (fun vn vi wr => ∃ j : Nat, j ≤ n ∧ vn = .string (frB base j) ∧ vi = .int .i64 ((j : Int) + 1) ∧ Hid ((∀ k, k < j → hasB l (frB base k) = true) ∧ LMt wr w.heap.size w.heap.size (addAll [] l) ∧ Below w.heap.size w wr)) (fun _ vi _ => n + 2 - (intOf vi).toNat)
  case atStart => exact ⟨0, by omega, by rw [frB_zero], rfl, Lib.hid ⟨fun k hk => absurd hk (Nat.not_lt_zero _), hm.out, HB1.out⟩⟩
  case round =>
    obtain ⟨j, hj, rfl, rfl, hR⟩ := hrel
    have zn := frB_size base j (by omega)
    have zn1 : (frB base j).size ≤ maxLen := by unfold maxLen; omega
    have h2 := frB_succ base (j + 1) (by omega)
    obtain ⟨s, hs⟩ : ∃ s, s = frB base j := ⟨_, rfl⟩
    rw [← hs] at zn zn1 ⊢
    have HS := Lib.hid hs
    have HS2 := Lib.hid h2
    clear hs h2
    obtain ⟨_, v0, mb, D, hc, _, _, hmm, hh⟩ := hR.out.2.1
    have c1 : wr.cell? ⟨w.heap.size, 1, none⟩ = some (.map (some mb)) := by simp [World.cell?, hc]
    have HH : Hid (Maps.has D (keyL s) = hasB l s) := Lib.hid (by rw [hh s zn1, addAll_has]; rfl)
    clear hc hh
    go_wp2_with fail
    refine (lhas_any w.heap.size mb _ D s zn1 _ c1 hmm).mono ?_
    rintro e w2 ⟨rfl, hg2⟩
    rw [HH.out]
    have hbw2 := hR.out.2.2.grown hg2 hR.out.2.2.size (fun _ h => by cases h)
    have HB2 := Lib.hid hbw2
    have HM2 := Lib.hid (hR.out.2.1.kept hg2)
    clear hmm hg2 c1 hbw2
    cases hx : hasB l s
    · go_wp2_with fail
      go_ret
      exact ⟨j, hj, hR.out.1, by rw [← HS.out]; exact hx, by rw [← HS.out]; rfl, HB2.out⟩
    · have hrm : j + 1 ≤ n := by
        rw [HN.out]
        exact frB_room base l (j + 1) fun k hk => by
          rcases Nat.lt_or_ge k j with h | h
          · exact hR.out.1 k h
          · obtain rfl : k = j := by omega
            rw [← HS.out]; exact hx
      have H3 := Lib.hid (itoa_any ((j : Int) + 1) (by omega) (by omega) w2 (HT.out.below HB2.out))
      have zi := itoa_len ((j : Int) + 1) (by omega) (by omega)
      obtain ⟨t, ht⟩ : ∃ t : ByteArray, t = ⟨(Lib.itoa ((j : Int) + 1)).toArray⟩ := ⟨_, rfl⟩
      have zt : t.size ≤ 20 := by rw [ht]; exact zi
      rw [← ht] at H3
      have HT2 := Lib.hid ht
      clear ht zi
      go_wp2_with fail
      refine H3.out.mono ?_
      rintro e w3 ⟨rfl, hb3⟩
      have HB3 := Lib.hid (HB2.out.trans (hb3.mono HB2.out.size))
      have HM3 := Lib.hid (HM2.out.kept (grown_of hb3))
      clear hb3
      go_wp2_with fail
      go_roundw
      case rel =>
        refine ⟨j + 1, hrm, ?_, by rw [Int.natCast_add]; rfl, Lib.hid ⟨fun k hk => ?_, HM3.out, HB3.out⟩⟩
        · rw [HS2.out, HT2.out, Int.natCast_add]; rfl
        · rcases Nat.lt_or_ge k j with h | h
          · exact hR.out.1 k h
          · obtain rfl : k = j := by omega
            rw [← HS.out]; exact hx
      case measure => simp [intOf]; omega
end Go.Proofs.YtlniackafagajaaDoor
