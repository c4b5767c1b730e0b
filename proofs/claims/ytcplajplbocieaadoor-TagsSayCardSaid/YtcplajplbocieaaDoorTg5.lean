/- Tags: which may be. Conditions: the name's length. -/
import Derived.Test.YtcplajplbocieaaDoorTg4
import Derived.Test.YtcplajplbocieaaDoorUq
namespace Go.Proofs.YtcplajplbocieaaDoor
open Go.RowKit Go.Sort Go.Lib

def cntI (n l : Int) : Bool := decide (l ≤ n) && decide (n ≤ 60)
def validT (x : Tg) : Bool :=
  if x.k = 1 then !decide (x.s.size = 0) && (grI (hdI x.s) && cntI x.n 0)
  else if x.k = 2 then !decide (x.s.size = 0) && cntI x.n 0
  else if x.k = 3 then !decide (x.s.size = 0) && cntI x.n 1
  else if x.k = 4 then decide (x.s.size = 0) && cntI x.n 1
  else if x.k = 5 ∨ x.k = 6 then decide (x.s.size = 0) && decide (x.n = 0)
  else false
set_option maxRecDepth 100000 in
theorem isCount_any (n l : Int) (w : World) : Calls Tryd.prog 26 #[.int .i64 n, .int .i64 l] w fun e w' => e = .returned (.bool (cntI n l)) ∧ w = w' := by
  cases h0 : decide (l ≤ n) <;> cases h1 : decide (n ≤ 60)
  all_goals
    go_enter Tryd.func26, Tryd.ntmps26
    go_wp2_with fail
    go_ret
    exact ⟨by simp [cntI, h0, h1], rfl⟩
theorem one_upper (s : ByteArray) (h : 0 < s.size) : upperB (s.extract 0 1) = grI (hdI s) := by
  obtain ⟨⟨l⟩⟩ := s
  cases l with
  | nil => exact absurd h (by decide)
  | cons c r =>
    have e : (ByteArray.extract ⟨⟨c :: r⟩⟩ 0 1) = ⟨⟨[c]⟩⟩ := by
      apply ByteArray.ext
      rw [ByteArray.data_extract]
      simp
    rw [e]
    show (hbnB ⟨⟨[c]⟩⟩ && grI (c.toNat : Int)) = grI (c.toNat : Int)
    cases hg : grI (c.toNat : Int)
    · simp
    · have : hbnB ⟨⟨[c]⟩⟩ = tlI (c.toNat : Int) := by
        show (!decide ((1 : Nat) = 0) && (decide ((1 : Nat) ≤ 40) && ([c].all fun c => tlI (c.toNat : Int)))) = _
        simp
      rw [this]
      unfold tlI
      rw [hg]
      simp
theorem ba_none (s : ByteArray) (h : s.size = 0) : s = ⟨#[]⟩ := by obtain ⟨⟨l⟩⟩ := s; cases l with | nil => rfl | cons a b => exact absurd h (Nat.succ_ne_zero _)
theorem ba_some (s : ByteArray) (h : ¬ s.size = 0) : s.toList.isEmpty = false ∧ ¬ s.toList = [] := by
  have : ¬ s.toList = [] := fun e => h (by rw [ByteArray.toList_eq] at e; rw [Lib.size_eq, e]; rfl)
  exact ⟨by cases hl : s.toList with | nil => exact absurd hl this | cons a b => rfl, this⟩
set_option maxRecDepth 100000 in
set_option maxHeartbeats 4000000 in
theorem valid_1 (s : ByteArray) (n : Int) (_hs : s.size ≤ 1000000000000000000) (w : World) : Calls Tryd.prog 9 #[.agg #[.int .i64 1, .string s, .int .i64 n]] w (Grew (.bool (!decide (s.size = 0) && (grI (hdI s) && cntI n 0))) w) := by
  by_cases h0 : s.size = 0
  · obtain rfl := ba_none s h0
    go_enter Tryd.func9, Tryd.ntmps9
    go_wp2_with fail
    go_ret
    exact ⟨rfl, (Below.refl _ w).alloc (Nat.le_refl _) _⟩
  · have HU := Lib.hid (upper_any (s.extract 0 1) (by rw [ByteArray.size_extract]; omega))
    rw [one_upper s (by omega)] at HU
    have HC := Lib.hid (isCount_any n 0)
    obtain ⟨hE, hne⟩ := ba_some s h0
    have h1 : 1 ≤ s.size := by omega
    have h2 : (1 : Int) ≤ (s.size : Int) := by omega
    rw [show decide (s.size = 0) = false by simpa using h0, Bool.not_false, Bool.true_and]
    generalize cntI n 0 = c at *
    cases hg : grI (hdI s)
    all_goals
      rw [hg] at HU
      go_enter Tryd.func9, Tryd.ntmps9
      go_wp2_with (first
        | (go_at_call 25; refine (HU.out _).mono ?_; rintro e w' ⟨rfl, rfl⟩)
        | (go_at_call 26; refine (HC.out _).mono ?_; rintro e w' ⟨rfl, rfl⟩))
      go_ret
      exact ⟨rfl, (Below.refl _ w).alloc (Nat.le_refl _) _⟩
set_option maxRecDepth 100000 in
set_option maxHeartbeats 4000000 in
theorem valid_2 (s : ByteArray) (n : Int) (w : World) : Calls Tryd.prog 9 #[.agg #[.int .i64 2, .string s, .int .i64 n]] w (Grew (.bool (!decide (s.size = 0) && cntI n 0)) w) := by
  by_cases h0 : s.size = 0
  · obtain rfl := ba_none s h0
    go_enter Tryd.func9, Tryd.ntmps9
    go_wp2_with fail
    go_ret
    exact ⟨rfl, (Below.refl _ w).alloc (Nat.le_refl _) _⟩
  · have HC := Lib.hid (isCount_any n 0)
    obtain ⟨hE, hne⟩ := ba_some s h0
    rw [show decide (s.size = 0) = false by simpa using h0, Bool.not_false, Bool.true_and]
    generalize cntI n 0 = c at *
    go_enter Tryd.func9, Tryd.ntmps9
    go_wp2_with (go_at_call 26; refine (HC.out _).mono ?_; rintro e w' ⟨rfl, rfl⟩)
    go_ret
    exact ⟨rfl, (Below.refl _ w).alloc (Nat.le_refl _) _⟩
set_option maxRecDepth 100000 in
set_option maxHeartbeats 4000000 in
theorem valid_3 (s : ByteArray) (n : Int) (w : World) : Calls Tryd.prog 9 #[.agg #[.int .i64 3, .string s, .int .i64 n]] w (Grew (.bool (!decide (s.size = 0) && cntI n 1)) w) := by
  by_cases h0 : s.size = 0
  · obtain rfl := ba_none s h0
    go_enter Tryd.func9, Tryd.ntmps9
    go_wp2_with fail
    go_ret
    exact ⟨rfl, (Below.refl _ w).alloc (Nat.le_refl _) _⟩
  · have HC := Lib.hid (isCount_any n 1)
    obtain ⟨hE, hne⟩ := ba_some s h0
    rw [show decide (s.size = 0) = false by simpa using h0, Bool.not_false, Bool.true_and]
    generalize cntI n 1 = c at *
    go_enter Tryd.func9, Tryd.ntmps9
    go_wp2_with (go_at_call 26; refine (HC.out _).mono ?_; rintro e w' ⟨rfl, rfl⟩)
    go_ret
    exact ⟨rfl, (Below.refl _ w).alloc (Nat.le_refl _) _⟩
set_option maxRecDepth 100000 in
set_option maxHeartbeats 4000000 in
theorem valid_4 (s : ByteArray) (n : Int) (w : World) : Calls Tryd.prog 9 #[.agg #[.int .i64 4, .string s, .int .i64 n]] w (Grew (.bool (decide (s.size = 0) && cntI n 1)) w) := by
  by_cases h0 : s.size = 0
  · obtain rfl := ba_none s h0
    have HC := Lib.hid (isCount_any n 1)
    rw [show decide ((⟨#[]⟩ : ByteArray).size = 0) = true from rfl, Bool.true_and]
    generalize cntI n 1 = c at *
    go_enter Tryd.func9, Tryd.ntmps9
    go_wp2_with (go_at_call 26; refine (HC.out _).mono ?_; rintro e w' ⟨rfl, rfl⟩)
    go_ret
    exact ⟨rfl, (Below.refl _ w).alloc (Nat.le_refl _) _⟩
  · obtain ⟨hE, hne⟩ := ba_some s h0
    rw [show decide (s.size = 0) = false by simpa using h0, Bool.false_and]
    go_enter Tryd.func9, Tryd.ntmps9
    go_wp2_with fail
    go_ret
    exact ⟨rfl, (Below.refl _ w).alloc (Nat.le_refl _) _⟩
set_option maxRecDepth 100000 in
set_option maxHeartbeats 4000000 in
theorem valid_5 (s : ByteArray) (n : Int) (w : World) : Calls Tryd.prog 9 #[.agg #[.int .i64 5, .string s, .int .i64 n]] w (Grew (.bool (decide (s.size = 0) && decide (n = 0))) w) := by
  by_cases h0 : s.size = 0
  · obtain rfl := ba_none s h0
    rw [show decide ((⟨#[]⟩ : ByteArray).size = 0) = true from rfl, Bool.true_and]
    by_cases hn : n = 0
    · subst hn
      go_enter Tryd.func9, Tryd.ntmps9
      go_wp2_with fail
      go_ret
      exact ⟨rfl, (Below.refl _ w).alloc (Nat.le_refl _) _⟩
    · have hb : (n == 0) = false := by simpa using hn
      rw [show decide (n = 0) = false by simpa using hn]
      go_enter Tryd.func9, Tryd.ntmps9
      go_wp2_with fail
      go_ret
      exact ⟨rfl, (Below.refl _ w).alloc (Nat.le_refl _) _⟩
  · obtain ⟨hE, hne⟩ := ba_some s h0
    rw [show decide (s.size = 0) = false by simpa using h0, Bool.false_and]
    go_enter Tryd.func9, Tryd.ntmps9
    go_wp2_with fail
    go_ret
    exact ⟨rfl, (Below.refl _ w).alloc (Nat.le_refl _) _⟩
set_option maxRecDepth 100000 in
set_option maxHeartbeats 4000000 in
theorem valid_6 (s : ByteArray) (n : Int) (w : World) : Calls Tryd.prog 9 #[.agg #[.int .i64 6, .string s, .int .i64 n]] w (Grew (.bool (decide (s.size = 0) && decide (n = 0))) w) := by
  by_cases h0 : s.size = 0
  · obtain rfl := ba_none s h0
    rw [show decide ((⟨#[]⟩ : ByteArray).size = 0) = true from rfl, Bool.true_and]
    by_cases hn : n = 0
    · subst hn
      go_enter Tryd.func9, Tryd.ntmps9
      go_wp2_with fail
      go_ret
      exact ⟨rfl, (Below.refl _ w).alloc (Nat.le_refl _) _⟩
    · have hb : (n == 0) = false := by simpa using hn
      rw [show decide (n = 0) = false by simpa using hn]
      go_enter Tryd.func9, Tryd.ntmps9
      go_wp2_with fail
      go_ret
      exact ⟨rfl, (Below.refl _ w).alloc (Nat.le_refl _) _⟩
  · obtain ⟨hE, hne⟩ := ba_some s h0
    rw [show decide (s.size = 0) = false by simpa using h0, Bool.false_and]
    go_enter Tryd.func9, Tryd.ntmps9
    go_wp2_with fail
    go_ret
    exact ⟨rfl, (Below.refl _ w).alloc (Nat.le_refl _) _⟩
set_option maxRecDepth 100000 in
set_option maxHeartbeats 4000000 in
theorem valid_0 (k : Int) (s : ByteArray) (n : Int) (h1 : ¬ k = 1) (h2 : ¬ k = 2) (h3 : ¬ k = 3) (h4 : ¬ k = 4) (h5 : ¬ k = 5) (h6 : ¬ k = 6) (w : World) : Calls Tryd.prog 9 #[.agg #[.int .i64 k, .string s, .int .i64 n]] w (Grew (.bool false) w) := by
  have g1 : (k == 1) = false := by simpa using h1
  have g2 : (k == 2) = false := by simpa using h2
  have g3 : (k == 3) = false := by simpa using h3
  have g4 : (k == 4) = false := by simpa using h4
  have g5 : (k == 5) = false := by simpa using h5
  have g6 : (k == 6) = false := by simpa using h6
  go_enter Tryd.func9, Tryd.ntmps9
  go_wp2_with fail
  go_ret
  exact ⟨rfl, (Below.refl _ w).alloc (Nat.le_refl _) _⟩
theorem valid_any (x : Tg) (hs : x.s.size ≤ 1000000000000000000) (w : World) : Calls Tryd.prog 9 #[.agg (encT x).toArray] w (Grew (.bool (validT x)) w) := by
  obtain ⟨k, s, n⟩ := x
  show Calls Tryd.prog 9 #[.agg #[.int .i64 k, .string s, .int .i64 n]] w _
  unfold validT
  simp only at hs ⊢
  by_cases h1 : k = 1
  · subst h1; exact valid_1 s n hs w
  by_cases h2 : k = 2
  · subst h2; exact valid_2 s n w
  by_cases h3 : k = 3
  · subst h3; exact valid_3 s n w
  by_cases h4 : k = 4
  · subst h4; exact valid_4 s n w
  by_cases h5 : k = 5
  · subst h5; exact valid_5 s n w
  by_cases h6 : k = 6
  · subst h6; exact valid_6 s n w
  rw [if_neg h1, if_neg h2, if_neg h3, if_neg h4, if_neg (by omega)]
  exact valid_0 k s n h1 h2 h3 h4 h5 h6 w
end Go.Proofs.YtcplajplbocieaaDoor
