/- Tags: the document's own SetTags: its contract. Conditions: how many; how they lie in memory. -/
import Derived.Test.YtcplajplbocieaaDoorTr5
namespace Go.Proofs.YtcplajplbocieaaDoor
open Go.RowKit Go.Sort Go.Lib

theorem set_snoc (l : List Tg) (x : Tg) : setT (setT l ++ [x]) = setT (l ++ [x]) := set_same _ _ fun y => by rw [List.mem_append, List.mem_append, mem_setT]
set_option maxRecDepth 100000 in
set_option maxHeartbeats 4000000 in
theorem setTags_core (l : List Tg) (n cap : Nat) (hn : n = l.length) (hlen : n ≤ 30) (ao : Option Addr) (w : World) (h : TgAt w ao l) : Calls Tryd.prog 14 #[.slice ao n cap] w (PutP w (setT l)) := by
  have HN := Lib.hid hn
  have HT := Lib.hid h
  clear hn h
  go_enter Tryd.func14, Tryd.ntmps14
  go_wp2_with fail
  go_loopg [3, 4] n (fun gg vo vi wr => ∃ (i : Nat) (ro : Option Addr) (rn rc : Nat), i ≤ n ∧ n - i ≤ gg ∧ vi = .int .i64 i ∧ vo = .slice ro rn rc ∧ Hid (rn = (setT (l.take i)).length ∧ TgAt wr ro (setT (l.take i)) ∧ (ro = none → rc = 0) ∧ (ro = none ∨ ∃ b o, ro = some ⟨b, o, none⟩) ∧ rn ≤ rc ∧ Below w.heap.size w wr))
  case atStart => exact ⟨0, none, 0, 0, Nat.zero_le _, by omega, rfl, rfl, Lib.hid ⟨by rw [List.take_zero, set_nil]; rfl, Or.inl (by rw [List.take_zero, set_nil]), fun _ => rfl, Or.inl rfl, Nat.le_refl _, Below.refl _ _⟩⟩
  case round =>
    obtain ⟨i, ro, rn, rc, hi, hgm, rfl, rfl, HR⟩ := hrel
    by_cases hlt : i < n
    · have hltz : (i : Int) < (n : Int) := by omega
      have hl : i < l.length := by rw [← HN.out]; exact hlt
      rcases HT.out with hnil | ⟨g, o, rfl, hgl, hcell⟩
      · rw [hnil] at hl; exact absurd hl (Nat.not_lt_zero _)
      obtain ⟨y, hy⟩ : ∃ y, l[i]! = y := ⟨_, rfl⟩
      have hce : ∀ j v, (encT y)[j]? = some v → wr.cell? ⟨g, o + i * 3 + j, none⟩ = some v := fun j v hv => by
        rw [HR.out.2.2.2.2.2.cell (p := ⟨g, _, none⟩) hgl]
        exact hcell i hl j v (by rw [hy]; exact hv)
      have HY := Lib.hid hy
      clear hcell hy
      obtain ⟨yk, ys, yn⟩ := y
      have e0 := hce 0 _ rfl
      have e1 := hce 1 _ rfl
      have e2 := hce 2 _ rfl
      simp only [encT, Nat.add_zero] at e0 e1 e2
      clear hce
      have HP := Lib.hid (put_core (setT (l.take i)) (rising_setT _) rn rc HR.out.1 (by have := HR.out.1; have := len_setT (l.take i); rw [List.length_take] at this; omega) HR.out.2.2.2.2.1 yk yn ys ro HR.out.2.2.1 HR.out.2.2.2.1 wr HR.out.2.1)
      go_wp2_with (go_at_call 30; refine HP.out.mono ?_; rintro e w2 ⟨a2, c2, rfl, ht2, hc2, hf2, hl2, hb2⟩; have HQ := Lib.hid (And.intro ht2 (And.intro hc2 (And.intro hf2 (And.intro hl2 hb2)))); clear ht2 hc2 hf2 hl2 hb2)
      go_roundg (n - (i + 1))
      case measure => omega
      case rel =>
        have es : setT (setT (l.take i) ++ [⟨yk, ys, yn⟩]) = setT (l.take (i + 1)) := by
          rw [set_snoc, List.take_succ_eq_append_getElem hl]
          have := HY.out
          rw [getElem!_pos l i hl] at this
          rw [this]
        obtain ⟨q1, q2, q3, q4, q5⟩ := HQ.out
        rw [es] at q1 q4
        exact ⟨i + 1, a2, _, c2, by omega, Nat.le_refl _, by go_num, by rw [es], Lib.hid ⟨rfl, q1, q2, q3, q4, HR.out.2.2.2.2.2.trans (q5.mono HR.out.2.2.2.2.2.size)⟩⟩
    · have hltz : ¬ (i : Int) < (n : Int) := by omega
      go_wp2_with fail
      go_ret
      have ei : l.take i = l := List.take_of_length_le (by rw [← HN.out]; omega)
      obtain ⟨q0, q1, q2, q3, q4, q5⟩ := HR.out
      rw [ei] at q0 q1
      subst q0
      exact ⟨ro, rc, rfl, q1, q2, q3, q4, q5⟩
theorem setTags_any (ao : Option Addr) (cap : Nat) (l : List Tg) (hl : l.length ≤ 30) (w : World) (h : TgAt w ao l) : Calls Tryd.prog 14 #[.slice ao l.length cap] w (PutP w (setT l)) := setTags_core l l.length cap rfl hl ao w h
end Go.Proofs.YtcplajplbocieaaDoor
