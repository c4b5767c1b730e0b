/- XUp.lean.tpl: what is asked of elder texts. Conditions: as each says. -/
import Derived.Lib.Hide
import Derived.Lib.Bytealg
import Derived.WalkKit
import Derived.WalkSpells
import Derived.WalkLawsBesides
import Derived.Laws.AppendOwn
import Derived.RegionTactic
import Derived.Deep.QuietTactic
import Derived.BigQuiet
import Derived.Test.YtcplajplbocieaaDoorGrew
namespace Go.Proofs.YtcplajplbocieaaDoor
open Go.RowKit
def on (d : Nat) (l : List (ByteArray × Nat)) : List (ByteArray × Nat) := l.map fun x => (x.1, x.2 + d)
def smI (c : Int) : Bool := decide (97 ≤ c) && decide (c ≤ 122)
def grI (c : Int) : Bool := decide (65 ≤ c) && decide (c ≤ 90)
def dgI (c : Int) : Bool := decide (48 ≤ c) && decide (c ≤ 57)
theorem isSmall_any (c : Int) (w : World) : Calls Tryd.prog 43 #[.int .u8 c] w fun e w' => e = .returned (.bool (smI c)) ∧ w = w' := by
  cases h0 : decide (97 ≤ c) <;> cases h1 : decide (c ≤ 122)
  all_goals
    go_enter Tryd.func43, Tryd.ntmps43
    go_wp2_with fail
    go_ret
    exact ⟨by simp [smI, h0, h1], rfl⟩
theorem isGreat_any (c : Int) (w : World) : Calls Tryd.prog 35 #[.int .u8 c] w fun e w' => e = .returned (.bool (grI c)) ∧ w = w' := by
  cases h0 : decide (65 ≤ c) <;> cases h1 : decide (c ≤ 90)
  all_goals
    go_enter Tryd.func35, Tryd.ntmps35
    go_wp2_with fail
    go_ret
    exact ⟨by simp [grI, h0, h1], rfl⟩
theorem isDigit_any (c : Int) (w : World) : Calls Tryd.prog 44 #[.int .u8 c] w fun e w' => e = .returned (.bool (dgI c)) ∧ w = w' := by
  cases h0 : decide (48 ≤ c) <;> cases h1 : decide (c ≤ 57)
  all_goals
    go_enter Tryd.func44, Tryd.ntmps44
    go_wp2_with fail
    go_ret
    exact ⟨by simp [dgI, h0, h1], rfl⟩
theorem ba_get (s : ByteArray) (j : Nat) (_h : j < s.size) (_h2 : j < s.data.toList.length) : s.data.toList[j] = s[j] := by rw [Array.getElem_toList]; rfl
/-- The first place from i on at which P holds; else the end. -/
theorem scan (P : UInt8 → Bool) (l : List UInt8) (i : Nat) (hi : i ≤ l.length) : ∃ k, i ≤ k ∧ k ≤ l.length ∧ (∀ j (hj : j < l.length), i ≤ j → j < k → P l[j] = false) ∧ ∀ hk : k < l.length, P l[k] = true := by
  obtain ⟨n, hn⟩ : ∃ n, n = l.length - i := ⟨_, rfl⟩
  induction n generalizing i with
  | zero => exact ⟨i, Nat.le_refl _, hi, fun j hj h1 h2 => by omega, fun hk => by omega⟩
  | succ n ih =>
    have hlt : i < l.length := by omega
    cases hp : P l[i]
    · obtain ⟨k, h1, h2, h3, h4⟩ := ih (i + 1) (by omega) (by omega)
      refine ⟨k, by omega, h2, fun j hj g1 g2 => ?_, h4⟩
      by_cases hji : j = i
      · subst hji; exact hp
      · exact h3 j hj (by omega) g2
    · exact ⟨i, Nat.le_refl _, hi, fun j hj h1 h2 => by omega, fun _ => hp⟩
def tlI (c : Int) : Bool := smI c || (grI c || (dgI c || c == 95))
def tlL (l : List UInt8) : Bool := l.all fun c => tlI (c.toNat : Int)
def hbnB (s : ByteArray) : Bool := !decide (s.size = 0) && (decide (s.size ≤ 40) && tlL s.data.toList)
def hdI (s : ByteArray) : Int := ((s.data.toList.headD 0).toNat : Int)
theorem hd_eq (s : ByteArray) (h : 0 < s.size) : hdI s = (s[0].toNat : Int) := by
  have hl : 0 < s.data.toList.length := by rw [← Lib.size_eq]; exact h
  have e := ba_get s 0 h hl
  rw [← e]
  have key : ∀ (l : List UInt8) (hl : 0 < l.length), ((l.headD 0).toNat : Int) = (l[0].toNat : Int) := fun l hl => by
    cases l with
    | nil => simp at hl
    | cons c r => rfl
  exact key _ hl
def upperB (s : ByteArray) : Bool := hbnB s && grI (hdI s)
theorem tl_cases (c : Int) : (smI c = true) ∨ (smI c = false ∧ grI c = true) ∨ (smI c = false ∧ grI c = false ∧ dgI c = true) ∨ (smI c = false ∧ grI c = false ∧ dgI c = false ∧ (c == 95) = true) ∨ (smI c = false ∧ grI c = false ∧ dgI c = false ∧ (c == 95) = false) := by
  cases smI c <;> cases grI c <;> cases dgI c <;> cases (c == 95) <;> simp
theorem tl_ok (c : Int) (h : tlI c = true) : (smI c = true) ∨ (smI c = false ∧ grI c = true) ∨ (smI c = false ∧ grI c = false ∧ dgI c = true) ∨ (smI c = false ∧ grI c = false ∧ dgI c = false ∧ (c == 95) = true) := by
  rcases tl_cases c with q | q | q | q | ⟨q1, q2, q3, q4⟩
  · exact Or.inl q
  · exact Or.inr (Or.inl q)
  · exact Or.inr (Or.inr (Or.inl q))
  · exact Or.inr (Or.inr (Or.inr q))
  · simp [tlI, q1, q2, q3, q4] at h
theorem tl_no (c : Int) (h : tlI c = false) : smI c = false ∧ grI c = false ∧ dgI c = false ∧ (c == 95) = false := by
  simpa [tlI] using h
set_option maxRecDepth 100000 in
theorem hbn_size (s : ByteArray) (hs : s.size ≤ 1000000000) (h : s.size = 0 ∨ 40 < s.size) (w : World) :
    Calls Tryd.prog 34 #[.string s] w fun e w' => e = .returned (.bool false) ∧ w = w' := by
  rcases h with h | h
  · have h0 : ((s.size : Int) == 0) = true := by rw [h]; rfl
    go_enter Tryd.func34, Tryd.ntmps34
    go_wp2_with fail
    go_ret
    exact ⟨rfl, rfl⟩
  · have h0 : ((s.size : Int) == 0) = false := beq_eq_false_iff_ne.2 (by omega)
    have h1 : (40 : Int) < (s.size : Int) := by omega
    go_enter Tryd.func34, Tryd.ntmps34
    go_wp2_with fail
    go_ret
    exact ⟨rfl, rfl⟩
set_option maxRecDepth 100000 in
set_option maxHeartbeats 4000000 in
theorem hbn_run (s : ByteArray) (h0 : 0 < s.size) (h40 : s.size ≤ 40) (k : Nat) (hk : k ≤ s.size) (hno : ∀ j (hj : j < s.size), j < k → tlI (s[j].toNat : Int) = true) (he : ∀ hk : k < s.size, tlI (s[k].toNat : Int) = false) (w : World) :
    Calls Tryd.prog 34 #[.string s] w fun e w' => e = .returned (.bool (decide (k = s.size))) ∧ w = w' := by
  have HN := Lib.hid hno
  have HE := Lib.hid he
  clear hno he
  have hz : ((s.size : Int) == 0) = false := beq_eq_false_iff_ne.2 (by omega)
  go_enter Tryd.func34, Tryd.ntmps34
  go_wp2_with fail
  go_loop [3, 14] (fun _ vi => ∃ j : Nat, j ≤ k ∧ vi = .int .i64 j) (fun _ vi => s.size + 1 - (intOf vi).toNat)
  case atStart => exact ⟨0, by omega, rfl⟩
  case round =>
    obtain ⟨j, hjk, rfl⟩ := hrel
    by_cases hlt : j < k
    · have hjs : j < s.size := by omega
      have hz2 : (j : Int) < (s.size : Int) := by omega
      rcases tl_ok _ (HN.out j hjs hlt) with q1 | ⟨q1, q2⟩ | ⟨q1, q2, q3⟩ | ⟨q1, q2, q3, q4⟩
      case inr.inr.inr => 
        have q5 : ((s[j].toNat : Int) != 95) = false := by rw [bne, q4]; rfl
        clear q4
        go_wp2_with (first
          | (go_at_call 43; refine (isSmall_any _ _).mono ?_; rintro e w' ⟨rfl, rfl⟩)
          | (go_at_call 35; refine (isGreat_any _ _).mono ?_; rintro e w' ⟨rfl, rfl⟩)
          | (go_at_call 44; refine (isDigit_any _ _).mono ?_; rintro e w' ⟨rfl, rfl⟩))
        go_round
        case rel => exact ⟨j + 1, by omega, by go_num⟩
        case measure => simp [intOf]; omega
      all_goals
        go_wp2_with (first
          | (go_at_call 43; refine (isSmall_any _ _).mono ?_; rintro e w' ⟨rfl, rfl⟩)
          | (go_at_call 35; refine (isGreat_any _ _).mono ?_; rintro e w' ⟨rfl, rfl⟩)
          | (go_at_call 44; refine (isDigit_any _ _).mono ?_; rintro e w' ⟨rfl, rfl⟩))
        go_round
        case rel => exact ⟨j + 1, by omega, by go_num⟩
        case measure => simp [intOf]; omega
    · obtain rfl : j = k := by omega
      by_cases hjs : j < s.size
      · obtain ⟨q1, q2, q3, q4⟩ := tl_no _ (HE.out hjs)
        have q5 : ((s[j].toNat : Int) != 95) = true := by rw [bne, q4]; rfl
        clear q4
        have hz2 : (j : Int) < (s.size : Int) := by omega
        have hd : decide (j = s.size) = false := decide_eq_false (by omega)
        go_wp2_with (first
          | (go_at_call 43; refine (isSmall_any _ _).mono ?_; rintro e w' ⟨rfl, rfl⟩)
          | (go_at_call 35; refine (isGreat_any _ _).mono ?_; rintro e w' ⟨rfl, rfl⟩)
          | (go_at_call 44; refine (isDigit_any _ _).mono ?_; rintro e w' ⟨rfl, rfl⟩))
        go_ret
        exact ⟨by first | rfl | (rw [hd]; rfl), rfl⟩
      · have hz2 : ¬ (j : Int) < (s.size : Int) := by omega
        have hd : decide (j = s.size) = true := decide_eq_true (by omega)
        go_wp2_with fail
        go_ret
        exact ⟨by first | rfl | (rw [hd]; rfl), rfl⟩
theorem tlL_at (s : ByteArray) (k : Nat) (hk : k ≤ s.size) (hno : ∀ j (hj : j < s.size), j < k → tlI (s[j].toNat : Int) = true) (he : ∀ hk : k < s.size, tlI (s[k].toNat : Int) = false) : tlL s.data.toList = decide (k = s.size) := by
  by_cases h : k = s.size
  · rw [decide_eq_true h]
    refine List.all_eq_true.2 fun c hc => ?_
    obtain ⟨j, hj, rfl⟩ := List.getElem_of_mem hc
    have hj' : j < s.size := by rw [Lib.size_eq]; exact hj
    rw [ba_get s j hj']
    exact hno j hj' (by omega)
  · rw [decide_eq_false h]
    have hk' : k < s.size := by omega
    have hkl : k < s.data.toList.length := by rw [← Lib.size_eq]; exact hk'
    refine Bool.eq_false_iff.2 fun ha => ?_
    have := List.all_eq_true.1 ha _ (List.getElem_mem hkl)
    rw [ba_get s k hk'] at this
    rw [he hk'] at this
    simp at this
theorem scan_tl (s : ByteArray) (i : Nat) (hi : i ≤ s.size) : ∃ k, i ≤ k ∧ k ≤ s.size ∧ (∀ j (hj : j < s.size), i ≤ j → j < k → tlI (s[j].toNat : Int) = true) ∧ ∀ hk : k < s.size, tlI (s[k].toNat : Int) = false := by
  have hsl := Lib.size_eq s
  obtain ⟨k, k1, k2, k3, k4⟩ := scan (fun c => !tlI (c.toNat : Int)) s.data.toList i (by omega)
  refine ⟨k, k1, by omega, fun j hj j1 j2 => ?_, fun hk => ?_⟩
  · have := k3 j (by omega) j1 j2
    rw [ba_get s j hj] at this
    simpa using this
  · have := k4 (by omega)
    rw [ba_get s k hk] at this
    simpa using this
theorem hbn_any (s : ByteArray) (hs : s.size ≤ 1000000000) (w : World) :
    Calls Tryd.prog 34 #[.string s] w fun e w' => e = .returned (.bool (hbnB s)) ∧ w = w' := by
  by_cases h : s.size = 0 ∨ 40 < s.size
  · have e : hbnB s = false := by
      unfold hbnB
      rcases h with h | h
      · rw [decide_eq_true h]; rfl
      · rw [decide_eq_false (show ¬ s.size ≤ 40 by omega)]; simp
    rw [e]
    exact hbn_size s hs h w
  · obtain ⟨k, _, k2, k3, k4⟩ := scan_tl s 0 (by omega)
    have e : hbnB s = decide (k = s.size) := by
      unfold hbnB
      rw [tlL_at s k k2 (fun j hj j2 => k3 j hj (by omega) j2) k4, decide_eq_false (show ¬ s.size = 0 by omega), decide_eq_true (show s.size ≤ 40 by omega)]
      simp
    rw [e]
    exact hbn_run s (by omega) (by omega) k k2 (fun j hj j2 => k3 j hj (by omega) j2) k4 w
theorem hbn_pos (s : ByteArray) (h : hbnB s = true) : 0 < s.size := by
  rcases Nat.eq_zero_or_pos s.size with h0 | h0
  · unfold hbnB at h
    rw [decide_eq_true h0] at h
    simp at h
  · exact h0
set_option maxRecDepth 100000 in
theorem upper_any (s : ByteArray) (hs : s.size ≤ 1000000000) (w : World) : Calls Tryd.prog 25 #[.string s] w fun e w' => e = .returned (.bool (upperB s)) ∧ w = w' := by
  unfold upperB
  cases hb : hbnB s
  · go_enter Tryd.func25, Tryd.ntmps25
    go_wp2_with fail
    refine (hbn_any s hs _).mono ?_
    rw [hb]
    rintro e w' ⟨rfl, rfl⟩
    go_wp2_with fail
    go_ret
    exact ⟨rfl, rfl⟩
  · have h0 := hbn_pos s hb
    rw [hd_eq s h0]
    go_enter Tryd.func25, Tryd.ntmps25
    go_wp2_with fail
    refine (hbn_any s hs _).mono ?_
    rw [hb]
    rintro e w' ⟨rfl, rfl⟩
    go_wp2_with fail
    refine (isGreat_any _ _).mono ?_
    rintro e w' ⟨rfl, rfl⟩
    go_wp2_with fail
    go_ret
    exact ⟨rfl, rfl⟩
end Go.Proofs.YtcplajplbocieaaDoor
