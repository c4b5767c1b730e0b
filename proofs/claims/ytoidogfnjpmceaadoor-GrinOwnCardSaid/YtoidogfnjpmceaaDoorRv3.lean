/- gristmillref.SameTexts and SameFuncs of the same plain data. No conditions. -/
import Derived.Test.YtoidogfnjpmceaaDoorRv2
namespace Go.Proofs.YtoidogfnjpmceaaDoor
open Go.ChangeShapes Go.WideShapes Go.ChangeAt Go.RowKit
attribute [local go_sem ↓] Go.wp_at_zero Go.wp_at_succ

set_option maxRecDepth 100000 in
set_option maxHeartbeats 8000000 in
theorem refTexts_any (l : List ByteArray) (v v' : Value) (w : World) (h : SlAt w v l.length fun b o => TxIn w l b o) (h' : SlAt w v' l.length fun b o => TxIn w l b o) :
    Calls Tryd.prog 44 #[v, v'] w (Grew (.bool true) w) := by
  obtain ⟨hn, ao, cap, rfl, -, hs⟩ := h
  obtain ⟨hn', ao', cap', rfl, -, hs'⟩ := h'
  have HS := Lib.hid hs
  have HS' := Lib.hid hs'
  obtain ⟨n, hnn⟩ : ∃ n, n = l.length := ⟨_, rfl⟩
  have HN := Lib.hid hnn
  rw [← hnn] at hn HS HS' ⊢
  have hx : (n : Int) ≤ 140737488355328 := by have : n ≤ 140737488355328 := hn; omega
  clear hs hs' hn hn' hnn
  have hnn : ((n : Int) != (n : Int)) = false := by simp
  go_enter Tryd.func44, Tryd.ntmps44
  go_wp2_with fail
  go_loopw [5] (fun vi wr => ∃ (i : Nat), vi = .int .i64 (i : Int) ∧ i ≤ n ∧ Hid (Below w.heap.size w wr)) (fun vi _ => n + 1 - (intOf vi).toNat)
  case atStart => exact ⟨0, rfl, by omega, Lib.hid (Below.refl _ _)⟩
  case round =>
    obtain ⟨i, rfl, hin, HB⟩ := hrel
    by_cases hii : (i : Int) < (n : Int)
    · have hi0 : (0 : Int) ≤ (i : Int) := by omega
      have hi1 : i < l.length := by have := HN.out; omega
      obtain ⟨b, o, rfl, hbw, ht⟩ := HS.out (by omega)
      obtain ⟨b', o', rfl, hbw', ht'⟩ := HS'.out (by omega)
      have c0 := (HB.out.cell (p := ⟨b, o + i, none⟩) hbw).trans (ht i hi1).1
      have c1 := (HB.out.cell (p := ⟨b', o' + i, none⟩) hbw').trans (ht' i hi1).1
      obtain ⟨s, hs⟩ : ∃ s, s = l[i] := ⟨_, rfl⟩
      rw [← hs] at c0 c1
      have hq : (s.toList == s.toList) = true := by simp
      clear hs ht ht' hi1
      go_wp2_with fail
      go_region_held3 (fun w' => w'.cell? ⟨b, o + i, none⟩ = some (.string s) ∧ w'.cell? ⟨b', o' + i, none⟩ = some (.string s)) (go_keep) (fail)
      all_goals (
        go_wp2_with fail
        go_roundw
        case rel => exact ⟨i + 1, by go_num, by omega, Lib.hid (Below.drew HB.out)⟩
        case measure => simp [intOf]; omega)
    · go_wp2_with fail
      go_ret
      exact ⟨rfl, HB.out⟩

set_option maxRecDepth 100000 in
set_option maxHeartbeats 8000000 in
theorem refFuncs_of (fs : List Fn) (v v' : Value) (w : World) (h : SlAt w v fs.length fun b o => FnIn w fs b o) (h' : SlAt w v' fs.length fun b o => FnIn w fs b o) : Calls Tryd.prog 21 #[v, v'] w (Grew (.bool true) w) := by
  obtain ⟨hn, ao, cap, rfl, -, hs⟩ := h
  obtain ⟨hn', ao', cap', rfl, -, hs'⟩ := h'
  obtain ⟨n, hnn⟩ : ∃ n, n = fs.length := ⟨_, rfl⟩
  have HN := Lib.hid hnn
  have HV := Lib.hid hs
  have HV' := Lib.hid hs'
  rw [← hnn] at hn HV HV' ⊢
  have hx : (n : Int) ≤ 140737488355328 := by have : n ≤ 140737488355328 := hn; omega
  have HB := Lib.hid (Below.refl w.heap.size w)
  clear hs hs' hn hn' hnn
  have hnn : ((n : Int) != (n : Int)) = false := by simp
  go_enter Tryd.func21, Tryd.ntmps21
  go_wp2_with fail
  go_loopw [5] (fun vi wr => ∃ (i : Nat), vi = .int .i64 (i : Int) ∧ i ≤ n ∧ Hid (Below w.heap.size w wr)) (fun vi _ => n + 1 - (intOf vi).toNat)
  case atStart => exact ⟨0, rfl, by omega, HB⟩
  case round =>
    clear HB
    obtain ⟨i, rfl, hin, HB⟩ := hrel
    by_cases hii : (i : Int) < (n : Int)
    · have hi0 : (0 : Int) ≤ (i : Int) := by omega
      have hilt : i < fs.length := by have := HN.out; omega
      obtain ⟨b, o, rfl, hbw, ht⟩ := HV.out (by omega)
      obtain ⟨b', o', rfl, hbw', ht'⟩ := HV'.out (by omega)
      obtain ⟨z0, -, ⟨v1, z1, s1⟩, v2, z2, hwf, s2⟩ := ht i hilt
      obtain ⟨y0, -, ⟨v1', y1, s1'⟩, v2', y2, -, s2'⟩ := ht' i hilt
      obtain ⟨nm, ps, ss, he⟩ : ∃ nm ps ss, fs[i] = Fn.mk nm ps ss := ⟨_, _, _, rfl⟩
      simp only [he] at z0 y0 s1 s1' s2 s2' hwf
      have f0 := (HB.out.cell (p := ⟨b, _, none⟩) hbw).trans z0
      have f1 := (HB.out.cell (p := ⟨b, _, none⟩) hbw).trans z1
      have f2 := (HB.out.cell (p := ⟨b, _, none⟩) hbw).trans z2
      have g0 := (HB.out.cell (p := ⟨b', _, none⟩) hbw').trans y0
      have g1 := (HB.out.cell (p := ⟨b', _, none⟩) hbw').trans y1
      have g2 := (HB.out.cell (p := ⟨b', _, none⟩) hbw').trans y2
      have hszA : b < wr.heap.size := Nat.lt_of_lt_of_le hbw HB.out.size
      have hszB : b' < wr.heap.size := Nat.lt_of_lt_of_le hbw' HB.out.size
      have r0 : (nm != nm) = false := by
        have : (nm == nm) = true := by rw [beq_toListBytes]; simp
        simp only [bne, this, Bool.not_true]
      have HC : Hid (∀ w', Below wr.heap.size wr w' → Calls Tryd.prog 44 #[v1, v1'] w' (Grew (.bool true) w')) := Lib.hid fun w' hb0 => by
        have hb := HB.out.trans (hb0.mono HB.out.size)
        exact refTexts_any ps _ _ w' (s1.mono hb.size fun _ _ p q => TxIn.below hb p q) (s1'.mono hb.size fun _ _ p q => TxIn.below hb p q)
      have HD : Hid (∀ w', Below wr.heap.size wr w' → Calls Tryd.prog 45 #[v2, v2'] w' (Grew (.bool true) w')) := Lib.hid fun w' hb0 => by
        have hb := HB.out.trans (hb0.mono HB.out.size)
        exact refSteps_of (ss.cost + 1) ss (Nat.lt_succ_self _) _ _ w' hwf (s2.mono hb.size fun _ _ p q => StIn.below hb p q) (s2'.mono hb.size fun _ _ p q => StIn.below hb p q)
      clear ht ht' z0 z1 z2 y0 y1 y2 he hilt s1 s1' s2 s2' hwf
      have HB2 : Hid (Below wr.heap.size wr wr) := Lib.hid (Below.refl _ _)
      go_wp2_with fail
      go_region_held3 (fun w' => w'.cell? ⟨b, o + i * 3, none⟩ = some (.string nm) ∧ w'.cell? ⟨b, o + i * 3 + 1, none⟩ = some v1 ∧ w'.cell? ⟨b, o + i * 3 + 2, none⟩ = some v2 ∧ w'.cell? ⟨b', o' + i * 3, none⟩ = some (.string nm) ∧ w'.cell? ⟨b', o' + i * 3 + 1, none⟩ = some v1' ∧ w'.cell? ⟨b', o' + i * 3 + 2, none⟩ = some v2') (first | go_keep | (refine ⟨?_, ?_, ?_, ?_, ?_, ?_⟩ <;> (first | (rw [HB3.out.cell (p := ⟨b, _, none⟩) hszA]; assumption) | (rw [HB3.out.cell (p := ⟨b', _, none⟩) hszB]; assumption)))) (first | (go_at_call 44; refine (HC.out _ (Below.drew HB2.out)).mono ?_; rintro e w2 ⟨rfl, hb2⟩; have HB3 : Hid (Below wr.heap.size wr w2) := Lib.hid ((Below.drew HB2.out).trans (hb2.mono HB2.out.size)); clear hb2) | (go_at_call 45; refine (HD.out _ HB3.out).mono ?_; rintro e w3 ⟨rfl, hb3⟩; have HB4 := HB3; clear HB3; have HB3 : Hid (Below wr.heap.size wr w3) := Lib.hid (HB4.out.trans (hb3.mono HB4.out.size)); clear hb3) | (go_at_call 45; refine (HD.out _ (Below.drew HB2.out)).mono ?_; rintro e w2 ⟨rfl, hb2⟩; have HB3 : Hid (Below wr.heap.size wr w2) := Lib.hid ((Below.drew HB2.out).trans (hb2.mono HB2.out.size)); clear hb2) | (go_at_call 44; refine (HC.out _ HB3.out).mono ?_; rintro e w3 ⟨rfl, hb3⟩; have HB4 := HB3; clear HB3; have HB3 : Hid (Below wr.heap.size wr w3) := Lib.hid (HB4.out.trans (hb3.mono HB4.out.size)); clear hb3))
      all_goals (
        go_wp2_with fail
        go_roundw
        case rel => exact ⟨i + 1, by go_num, by omega, Lib.hid (HB.out.trans (HB3.out.mono HB.out.size))⟩
        case measure => simp [intOf]; omega)
    · go_wp2_with fail
      go_ret
      exact ⟨rfl, HB.out⟩
end Go.Proofs.YtoidogfnjpmceaaDoor
