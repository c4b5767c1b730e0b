/- gristmillref.SameTexts of the same texts. No conditions. -/
import Derived.Test.YtledjcplbldokaaGreatDoorEq8
import Derived.Deep.RegionHeld3
import Derived.Deep.DrawnRows
namespace Go.Proofs.YtledjcplbldokaaGreatDoor
open Go.ChangeShapes Go.WideShapes Go.ChangeAt Go.RowKit
attribute [local go_sem ↓] Go.wp_at_zero Go.wp_at_succ

set_option maxRecDepth 100000 in
set_option maxHeartbeats 8000000 in
theorem refTexts_any (l : List ByteArray) (v v' : Value) (w : World) (h : SlAt w v l.length fun b o => TxIn w l b o) (h' : SlAt w v' l.length fun b o => TxIn w l b o) :
    Calls Tryz.prog 22 #[v, v'] w (Grew (.bool true) w) := by
  obtain ⟨hn, ao, cap, rfl, -, hs⟩ := h
  obtain ⟨hn', ao', cap', rfl, -, hs'⟩ := h'
  have HS := Lib.hid hs
  have HS' := Lib.hid hs'
  obtain ⟨n, hnn⟩ : ∃ n, n = l.length := ⟨_, rfl⟩
  have HN := Lib.hid hnn
  rw [← hnn] at hn HS HS' ⊢
  have hx : (n : Int) ≤ 140737488355328 := by have : n ≤ 140737488355328 := hn; omega
  clear hs hs' hn hn' hnn
  have hnn : ((n : Int) != (n : Int)) = false := by simp
  go_enter Tryz.func22, Tryz.ntmps22
  go_wp2_with fail
  go_loopw [5] (fun vi wr => ∃ (i : Nat), vi = .int .i64 (i : Int) ∧ i ≤ n ∧ Hid (Below w.heap.size w wr)) (fun vi _ => n + 1 - (intOf vi).toNat)
  case atStart => exact ⟨0, rfl, by omega, Lib.hid (Below.refl _ _)⟩
  case round =>
    obtain ⟨i, rfl, hin, HB⟩ := hrel
    by_cases hii : (i : Int) < (n : Int)
    · have hi0 : (0 : Int) ≤ (i : Int) := by omega
      have hi1 : i < l.length := by have := HN.out; omega
      obtain ⟨b, o, rfl, hbw, ht⟩ := HS.out (by omega)
      obtain ⟨b', o', rfl, hbw', ht'⟩ := HS'.out (by omega)
      have c0 := (HB.out.cell (p := ⟨b, o + i, none⟩) hbw).trans (ht i hi1).1
      have c1 := (HB.out.cell (p := ⟨b', o' + i, none⟩) hbw').trans (ht' i hi1).1
      obtain ⟨s, hs⟩ : ∃ s, s = l[i] := ⟨_, rfl⟩
      rw [← hs] at c0 c1
      have hq : (s.toList == s.toList) = true := by simp
      clear hs ht ht' hi1
      go_wp2_with fail
      go_region_held3 (fun w' => w'.cell? ⟨b, o + i, none⟩ = some (.string s) ∧ w'.cell? ⟨b', o' + i, none⟩ = some (.string s)) (go_keep) (fail)
      all_goals (
        go_wp2_with fail
        go_roundw
        case rel => exact ⟨i + 1, by go_num, by omega, Lib.hid (Below.drew HB.out)⟩
        case measure => simp [intOf]; omega)
    · go_wp2_with fail
      go_ret
      exact ⟨rfl, HB.out⟩
end Go.Proofs.YtledjcplbldokaaGreatDoor
