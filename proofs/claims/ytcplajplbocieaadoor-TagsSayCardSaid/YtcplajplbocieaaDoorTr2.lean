/- Tags: the document's own ValidTag, TagText, HasTag: contracts. Conditions: as each says. -/
import Derived.Test.YtcplajplbocieaaDoorTr1
import Derived.Test.YtcplajplbocieaaDoorTg9
import Derived.Shelf.SlSortCmp.QuietGrown
namespace Go.Proofs.YtcplajplbocieaaDoor
open Go.RowKit Go.Sort Go.Lib

theorem ret_bb {v : Value} {b c : Bool} (h : v = .bool b) (hb : b = c) : Ending.returned v = .returned (.bool c) := by rw [h, hb]
set_option maxRecDepth 100000 in
set_option maxHeartbeats 4000000 in
theorem validTag_none (k n : Int) (w : World) : Calls Tryd.prog 8 #[.agg #[.int .i64 k, .string ⟨#[]⟩, .int .i64 n]] w (Grew (.bool (validT ⟨k, ⟨#[]⟩, n⟩)) w) := by
  have HB := Lib.hid ((Below.refl _ w).alloc (Nat.le_refl _) (.cells #[.int .i64 k, .string ⟨#[]⟩, .int .i64 n] 23))
  by_cases h1 : k = 1
  · subst h1
    go_enter Tryd.func8, Tryd.ntmps8
    go_wp2_with fail
    all_goals
      go_ret
      refine ⟨ret_bb rfl ?_, HB.out⟩
      unfold validT cntI
      have z0 : (⟨#[]⟩ : ByteArray).size = 0 := rfl
      simp only [z0]
      first | (simp; done) | (simp; rfl) | (simp [show 0 ≤ n by omega, show n ≤ 60 by omega, show 65 ≤ c by omega]; done) | (simp; omega)
  by_cases h2 : k = 2
  · subst h2
    go_enter Tryd.func8, Tryd.ntmps8
    go_wp2_with fail
    all_goals
      go_ret
      refine ⟨ret_bb rfl ?_, HB.out⟩
      unfold validT cntI
      have z0 : (⟨#[]⟩ : ByteArray).size = 0 := rfl
      simp only [z0]
      first | (simp; done) | (simp; rfl) | (simp [show 0 ≤ n by omega, show n ≤ 60 by omega, show 65 ≤ c by omega]; done) | (simp; omega)
  by_cases h3 : k = 3
  · subst h3
    go_enter Tryd.func8, Tryd.ntmps8
    go_wp2_with fail
    all_goals
      go_ret
      refine ⟨ret_bb rfl ?_, HB.out⟩
      unfold validT cntI
      have z0 : (⟨#[]⟩ : ByteArray).size = 0 := rfl
      simp only [z0]
      first | (simp; done) | (simp; rfl) | (simp [show 0 ≤ n by omega, show n ≤ 60 by omega, show 65 ≤ c by omega]; done) | (simp; omega)
  by_cases h4 : k = 4
  · subst h4
    go_enter Tryd.func8, Tryd.ntmps8
    go_wp2_with fail
    all_goals
      go_ret
      refine ⟨ret_bb rfl ?_, HB.out⟩
      unfold validT cntI
      have z0 : (⟨#[]⟩ : ByteArray).size = 0 := rfl
      simp only [z0]
      first | (simp; done) | (simp; rfl) | (simp [show 0 ≤ n by omega, show n ≤ 60 by omega, show 65 ≤ c by omega]; done) | (simp; omega)
  by_cases h5 : k = 5
  · subst h5
    go_enter Tryd.func8, Tryd.ntmps8
    go_wp2_with fail
    all_goals
      go_ret
      refine ⟨ret_bb rfl ?_, HB.out⟩
      unfold validT cntI
      have z0 : (⟨#[]⟩ : ByteArray).size = 0 := rfl
      simp only [z0]
      first | (simp; done) | (simp; rfl) | (simp [show 0 ≤ n by omega, show n ≤ 60 by omega, show 65 ≤ c by omega]; done) | (simp; omega)
  by_cases h6 : k = 6
  · subst h6
    go_enter Tryd.func8, Tryd.ntmps8
    go_wp2_with fail
    all_goals
      go_ret
      refine ⟨ret_bb rfl ?_, HB.out⟩
      unfold validT cntI
      have z0 : (⟨#[]⟩ : ByteArray).size = 0 := rfl
      simp only [z0]
      first | (simp; done) | (simp; rfl) | (simp [show 0 ≤ n by omega, show n ≤ 60 by omega, show 65 ≤ c by omega]; done) | (simp; omega)
  have g1 : (k == 1) = false := beq_eq_false_iff_ne.2 h1
  have g2 : (k == 2) = false := beq_eq_false_iff_ne.2 h2
  have g3 : (k == 3) = false := beq_eq_false_iff_ne.2 h3
  have g4 : (k == 4) = false := beq_eq_false_iff_ne.2 h4
  have g5 : (k == 5) = false := beq_eq_false_iff_ne.2 h5
  have g6 : (k == 6) = false := beq_eq_false_iff_ne.2 h6
  have e : validT ⟨k, ⟨#[]⟩, n⟩ = false := by
    unfold validT
    simp only
    rw [if_neg h1, if_neg h2, if_neg h3, if_neg h4, if_neg (by omega)]
  rw [e]
  clear e h1 h2 h3 h4 h5 h6
  go_enter Tryd.func8, Tryd.ntmps8
  go_wp2_with fail
  all_goals
    go_ret
    exact ⟨rfl, HB.out⟩
set_option maxRecDepth 100000 in
set_option maxHeartbeats 4000000 in
theorem validTag_some (k n : Int) (s : ByteArray) (hs : 0 < s.size) (w : World) : Calls Tryd.prog 8 #[.agg #[.int .i64 k, .string s, .int .i64 n]] w (Grew (.bool (validT ⟨k, s, n⟩)) w) := by
  have HB := Lib.hid ((Below.refl _ w).alloc (Nat.le_refl _) (.cells #[.int .i64 k, .string s, .int .i64 n] 23))
  obtain ⟨hE, hne⟩ := ba_some s (by omega)
  by_cases h1 : k = 1
  · subst h1
    go_enter Tryd.func8, Tryd.ntmps8
    go_wp2_with fail
    all_goals
      go_ret
      refine ⟨ret_bb rfl ?_, HB.out⟩
      unfold validT cntI grI
      have z0 : ¬ s.size = 0 := by omega
      simp only [hd_eq s hs, z0]
      generalize ((s[0].toNat : Nat) : Int) = c at *
      first | (simp; done) | (simp; rfl) | (simp [show 0 ≤ n by omega, show n ≤ 60 by omega, show 65 ≤ c by omega]; done) | (simp; omega)
  by_cases h2 : k = 2
  · subst h2
    go_enter Tryd.func8, Tryd.ntmps8
    go_wp2_with fail
    all_goals
      go_ret
      refine ⟨ret_bb rfl ?_, HB.out⟩
      unfold validT cntI grI
      have z0 : ¬ s.size = 0 := by omega
      simp only [hd_eq s hs, z0]
      generalize ((s[0].toNat : Nat) : Int) = c at *
      first | (simp; done) | (simp; rfl) | (simp [show 0 ≤ n by omega, show n ≤ 60 by omega, show 65 ≤ c by omega]; done) | (simp; omega)
  by_cases h3 : k = 3
  · subst h3
    go_enter Tryd.func8, Tryd.ntmps8
    go_wp2_with fail
    all_goals
      go_ret
      refine ⟨ret_bb rfl ?_, HB.out⟩
      unfold validT cntI grI
      have z0 : ¬ s.size = 0 := by omega
      simp only [hd_eq s hs, z0]
      generalize ((s[0].toNat : Nat) : Int) = c at *
      first | (simp; done) | (simp; rfl) | (simp [show 0 ≤ n by omega, show n ≤ 60 by omega, show 65 ≤ c by omega]; done) | (simp; omega)
  by_cases h4 : k = 4
  · subst h4
    go_enter Tryd.func8, Tryd.ntmps8
    go_wp2_with fail
    all_goals
      go_ret
      refine ⟨ret_bb rfl ?_, HB.out⟩
      unfold validT cntI grI
      have z0 : ¬ s.size = 0 := by omega
      simp only [hd_eq s hs, z0]
      generalize ((s[0].toNat : Nat) : Int) = c at *
      first | (simp; done) | (simp; rfl) | (simp [show 0 ≤ n by omega, show n ≤ 60 by omega, show 65 ≤ c by omega]; done) | (simp; omega)
  by_cases h5 : k = 5
  · subst h5
    go_enter Tryd.func8, Tryd.ntmps8
    go_wp2_with fail
    all_goals
      go_ret
      refine ⟨ret_bb rfl ?_, HB.out⟩
      unfold validT cntI grI
      have z0 : ¬ s.size = 0 := by omega
      simp only [hd_eq s hs, z0]
      generalize ((s[0].toNat : Nat) : Int) = c at *
      first | (simp; done) | (simp; rfl) | (simp [show 0 ≤ n by omega, show n ≤ 60 by omega, show 65 ≤ c by omega]; done) | (simp; omega)
  by_cases h6 : k = 6
  · subst h6
    go_enter Tryd.func8, Tryd.ntmps8
    go_wp2_with fail
    all_goals
      go_ret
      refine ⟨ret_bb rfl ?_, HB.out⟩
      unfold validT cntI grI
      have z0 : ¬ s.size = 0 := by omega
      simp only [hd_eq s hs, z0]
      generalize ((s[0].toNat : Nat) : Int) = c at *
      first | (simp; done) | (simp; rfl) | (simp [show 0 ≤ n by omega, show n ≤ 60 by omega, show 65 ≤ c by omega]; done) | (simp; omega)
  have g1 : (k == 1) = false := beq_eq_false_iff_ne.2 h1
  have g2 : (k == 2) = false := beq_eq_false_iff_ne.2 h2
  have g3 : (k == 3) = false := beq_eq_false_iff_ne.2 h3
  have g4 : (k == 4) = false := beq_eq_false_iff_ne.2 h4
  have g5 : (k == 5) = false := beq_eq_false_iff_ne.2 h5
  have g6 : (k == 6) = false := beq_eq_false_iff_ne.2 h6
  have e : validT ⟨k, s, n⟩ = false := by
    unfold validT
    simp only
    rw [if_neg h1, if_neg h2, if_neg h3, if_neg h4, if_neg (by omega)]
  rw [e]
  clear e h1 h2 h3 h4 h5 h6
  go_enter Tryd.func8, Tryd.ntmps8
  go_wp2_with fail
  all_goals
    go_ret
    exact ⟨rfl, HB.out⟩
theorem validTag_any (x : Tg) (w : World) : Calls Tryd.prog 8 #[.agg (encT x).toArray] w (Grew (.bool (validT x)) w) := by
  obtain ⟨k, s, n⟩ := x
  rcases Nat.eq_zero_or_pos s.size with h | h
  · obtain rfl := ba_none s h
    exact validTag_none k n w
  · exact validTag_some k n s h w
end Go.Proofs.YtcplajplbocieaaDoor
