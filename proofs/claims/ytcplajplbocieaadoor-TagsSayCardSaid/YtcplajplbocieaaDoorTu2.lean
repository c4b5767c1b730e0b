/- Tags: gristmillref.SameTags of the same list: its contract. Conditions: how many; how they lie in memory. -/
import Derived.Test.YtcplajplbocieaaDoorTs
import Derived.Test.YtcplajplbocieaaDoorTq
import Derived.Deep.LoopGhost
namespace Go.Proofs.YtcplajplbocieaaDoor
open Go.RowKit Go.Sort Go.Lib

set_option maxRecDepth 100000 in
set_option maxHeartbeats 4000000 in
theorem sameTags_core (l : List Tg) (n : Nat) (hn : n = l.length) (hlen : n ≤ 100000) (ao bo : Option Addr) (c1 c2 : Nat) (w : World) (h1 : TgAt w ao l) (h2 : TgAt w bo l) :
    Calls Tryd.prog 12 #[.slice ao n c1, .slice bo n c2] w (Grew (.bool true) w) := by
  have HN := Lib.hid hn
  have H1 := Lib.hid h1
  have H2 := Lib.hid h2
  have hself : ((n : Int) == (n : Int)) = true := beq_self_eq_true _
  have hself2 : ((n : Int) != (n : Int)) = false := by rw [bne, hself]; rfl
  clear hn h1 h2
  go_enter Tryd.func12, Tryd.ntmps12
  go_wp2_with fail
  go_loopg [5, 6] n (fun gg vi vs wr => ∃ i : Nat, i ≤ n ∧ n - i ≤ gg ∧ vi = .int .i64 i ∧ Hid (Below w.heap.size w wr))
  case atStart => exact ⟨0, Nat.zero_le _, by omega, rfl, Lib.hid (Below.refl _ _)⟩
  case round =>
    obtain ⟨i, hi, hgm, rfl, HR⟩ := hrel
    by_cases hlt : i < n
    · have hltz : (i : Int) < (n : Int) := by omega
      have hl : i < l.length := by rw [← HN.out]; exact hlt
      rcases H1.out with hnil | ⟨g, o, rfl, hgl, hcell⟩
      · rw [hnil] at hl; exact absurd hl (Nat.not_lt_zero _)
      rcases H2.out with hnil | ⟨g', o', rfl, hgl', hcell'⟩
      · rw [hnil] at hl; exact absurd hl (Nat.not_lt_zero _)
      have hce : ∀ j v, (encT l[i]!)[j]? = some v → ∀ s : Aft wr, s.at.cell? ⟨g, o + i * 3 + j, none⟩ = some v := fun j v hv s => by
        rw [(HR.out.trans (s.below.mono HR.out.size)).cell (p := ⟨g, _, none⟩) hgl]
        exact hcell i hl j v hv
      have hcp : ∀ j v, (encT l[i]!)[j]? = some v → ∀ s : Aft wr, s.at.cell? ⟨g', o' + i * 3 + j, none⟩ = some v := fun j v hv s => by
        rw [(HR.out.trans (s.below.mono HR.out.size)).cell (p := ⟨g', _, none⟩) hgl']
        exact hcell' i hl j v hv
      have HS := Lib.hid (sameTag_any l[i]! l[i]!)
      rw [(eqT_iff l[i]! l[i]!).2 rfl] at HS
      generalize l[i]! = x at *
      obtain ⟨xk, xs, xn⟩ := x
      have e0 := hce 0 _ rfl
      have e1 := hce 1 _ rfl
      have e2 := hce 2 _ rfl
      have f0 := hcp 0 _ rfl
      have f1 := hcp 1 _ rfl
      have f2 := hcp 2 _ rfl
      simp only [encT, Nat.add_zero] at e0 e1 e2 f0 f1 f2 HS
      clear hce hcp hcell hcell'
      go_wp2_with fail
      refine region_quiet_lit (C := fun w' => ∃ s : Aft wr, w' = s.at) (by kernel_rfl) (by kernel_rfl) ⟨⟨wr.drew, Below.drew (Below.refl _ _)⟩, rfl⟩ ?_
      repeat (go_big_quiet_step (with_reducible exact call_ok (HS.out _)))
      refine wpQuiet_nil ?_
      rintro w' ⟨s, rfl⟩
      clear e0 e1 e2 f0 f1 f2
      go_wp2_with fail
      go_roundg (n - (i + 1))
      case measure => omega
      case rel => exact ⟨i + 1, by omega, Nat.le_refl _, by go_num, Lib.hid (HR.out.trans (s.below.mono HR.out.size))⟩
    · have hltz : ¬ (i : Int) < (n : Int) := by omega
      go_wp2_with fail
      go_ret
      exact ⟨rfl, HR.out⟩
theorem sameTags_any (l : List Tg) (hlen : l.length ≤ 100000) (ao bo : Option Addr) (c1 c2 : Nat) (w : World) (h1 : TgAt w ao l) (h2 : TgAt w bo l) :
    Calls Tryd.prog 12 #[.slice ao l.length c1, .slice bo l.length c2] w (Grew (.bool true) w) := sameTags_core l l.length rfl hlen ao bo c1 c2 w h1 h2
end Go.Proofs.YtcplajplbocieaaDoor
