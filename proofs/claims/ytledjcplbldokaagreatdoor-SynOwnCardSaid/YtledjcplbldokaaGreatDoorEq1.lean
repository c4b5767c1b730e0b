/- slices.Equal of two lists of texts. No conditions. -/
import Derived.Test.YtledjcplbldokaaGreatDoorEq0
import Derived.Deep.RegionHeld3
import Derived.Deep.DrawnRows
namespace Go.Proofs.YtledjcplbldokaaGreatDoor
open Go.ChangeShapes Go.WideShapes Go.ChangeAt Go.RowKit
attribute [local go_sem ↓] Go.wp_at_zero Go.wp_at_succ

set_option maxRecDepth 100000 in
set_option maxHeartbeats 8000000 in
theorem txEqual_any (l l' : List ByteArray) (v v' : Value) (w : World) (h : SlAt w v l.length fun b o => TxIn w l b o) (h' : SlAt w v' l'.length fun b o => TxIn w l' b o) :
    Calls Tryz.prog 38 #[v, v'] w (Grew (.bool (txEq l l')) w) := by
  obtain ⟨hn, ao, cap, rfl, -, hs⟩ := h
  obtain ⟨hn', ao', cap', rfl, -, hs'⟩ := h'
  have HS := Lib.hid hs
  have HS' := Lib.hid hs'
  obtain ⟨n, hnn⟩ : ∃ n, n = l.length := ⟨_, rfl⟩
  obtain ⟨n', hnn'⟩ : ∃ n, n = l'.length := ⟨_, rfl⟩
  have HN := Lib.hid hnn
  have HN' := Lib.hid hnn'
  rw [← hnn] at hn HS ⊢
  rw [← hnn'] at hn' HS' ⊢
  have hx : (n : Int) ≤ 140737488355328 := by have : n ≤ 140737488355328 := hn; omega
  have hx' : (n' : Int) ≤ 140737488355328 := by have : n' ≤ 140737488355328 := hn'; omega
  obtain ⟨X, hX⟩ : ∃ X, X = txEq l l' := ⟨_, rfl⟩
  have HX : Hid (X = txEq (l.drop 0) (l'.drop 0)) := Lib.hid hX
  by_cases hne : n = n'
  · subst hne
    rw [← hX]
    clear hs hs' hn hn' hnn hnn' hX
    have hnn : ((n : Int) == (n : Int)) = true := by simp
    go_enter Tryz.func38, Tryz.ntmps38
    go_wp2_with fail
    go_loopw [13] (fun vi wr => ∃ (i : Nat), vi = .int .i64 (i : Int) ∧ i ≤ n ∧ Hid (Below w.heap.size w wr) ∧ Hid (X = txEq (l.drop i) (l'.drop i))) (fun vi _ => n + 1 - (intOf vi).toNat)
    case atStart => exact ⟨0, rfl, by omega, Lib.hid (Below.refl _ _), HX⟩
    case round =>
      clear HX
      obtain ⟨i, rfl, hin, HB, HX⟩ := hrel
      by_cases hii : (i : Int) < (n : Int)
      · have hi0 : (0 : Int) ≤ (i : Int) := by omega
        have hi1 : i < l.length := by have := HN.out; omega
        have hi2 : i < l'.length := by have := HN'.out; omega
        obtain ⟨b, o, rfl, hbw, ht⟩ := HS.out (by omega)
        obtain ⟨b', o', rfl, hbw', ht'⟩ := HS'.out (by omega)
        have c0 := (HB.out.cell (p := ⟨b, o + i, none⟩) hbw).trans (ht i hi1).1
        have c1 := (HB.out.cell (p := ⟨b', o' + i, none⟩) hbw').trans (ht' i hi2).1
        have HXX := HX.out
        rw [drop_two hi1, drop_two hi2] at HXX
        obtain ⟨s, hs⟩ : ∃ s, s = l[i] := ⟨_, rfl⟩
        obtain ⟨s', hs'⟩ : ∃ s, s = l'[i] := ⟨_, rfl⟩
        rw [← hs] at c0 HXX
        rw [← hs'] at c1 HXX
        simp only [txEq] at HXX
        have HXX := Lib.hid HXX
        clear hs hs' ht ht' hi1 hi2 HX
        cases hc : (s.toList == s'.toList)
        · have hc2 : (s.toList != s'.toList) = true := by simp [bne, hc]
          have HT : Hid (X = false) := Lib.hid (by rw [HXX.out, hc]; rfl)
          go_wp2_with fail
          go_region_held3 (fun w' => w'.cell? ⟨b, o + i, none⟩ = some (.string s) ∧ w'.cell? ⟨b', o' + i, none⟩ = some (.string s')) (go_keep) (fail)
          all_goals (
            go_wp2_with fail
            go_ret
            exact ⟨by rw [HT.out]; rfl, Below.drew HB.out⟩)
        · have hc2 : (s.toList != s'.toList) = false := by simp [bne, hc]
          have HT : Hid (X = txEq (l.drop (i + 1)) (l'.drop (i + 1))) := Lib.hid (by have := HXX.out; rw [hc] at this; simpa using this)
          go_wp2_with fail
          go_region_held3 (fun w' => w'.cell? ⟨b, o + i, none⟩ = some (.string s) ∧ w'.cell? ⟨b', o' + i, none⟩ = some (.string s')) (go_keep) (fail)
          all_goals (
            go_wp2_with fail
            go_roundw
            case rel => exact ⟨i + 1, by go_num, by omega, Lib.hid (Below.drew HB.out), HT⟩
            case measure => simp [intOf]; omega)
      · have HT : Hid (X = true) := Lib.hid (by rw [HX.out, List.drop_eq_nil_of_le (by have := HN.out; omega), List.drop_eq_nil_of_le (by have := HN'.out; omega)]; rfl)
        go_wp2_with fail
        go_ret
        exact ⟨by rw [HT.out]; rfl, HB.out⟩
  · have hf : txEq l l' = false := by
      cases h : txEq l l'
      · rfl
      · have := txEq_len h; omega
    have hnn2 : ((n : Int) == (n' : Int)) = false := by simp; omega
    rw [hf]
    clear hs hs' hn hn' hnn hnn' hX hf HX
    go_enter Tryz.func38, Tryz.ntmps38
    go_wp2_with fail
    go_ret
    exact ⟨rfl, Below.refl _ _⟩
end Go.Proofs.YtledjcplbldokaaGreatDoor
