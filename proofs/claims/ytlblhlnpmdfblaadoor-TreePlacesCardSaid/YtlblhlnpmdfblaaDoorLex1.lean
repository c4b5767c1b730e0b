/- lex.Words, of any text of at most 65536 bytes: the words, each with its place. No conditions. -/
import Derived.Test.YtlblhlnpmdfblaaDoorByt
import Derived.Test.YtlblhlnpmdfblaaDoorClone
import Derived.Laws.AppendOwn
import Derived.RegionTactic
import Derived.Deep.QuietTactic
import Derived.BigQuiet
namespace Go.Proofs.YtlblhlnpmdfblaaDoor
open Go.RowKit

theorem ba_get (s : ByteArray) (j : Nat) (_h : j < s.size) (_h2 : j < s.data.toList.length) : s.data.toList[j] = s[j] := by rw [Array.getElem_toList]; rfl
/-- The first place from i on at which P holds; else the end. -/
theorem scan (P : UInt8 → Bool) (l : List UInt8) (i : Nat) (hi : i ≤ l.length) : ∃ k, i ≤ k ∧ k ≤ l.length ∧ (∀ j (hj : j < l.length), i ≤ j → j < k → P l[j] = false) ∧ ∀ hk : k < l.length, P l[k] = true := by
  obtain ⟨n, hn⟩ : ∃ n, n = l.length - i := ⟨_, rfl⟩
  induction n generalizing i with
  | zero => exact ⟨i, Nat.le_refl _, hi, fun j hj h1 h2 => by omega, fun hk => by omega⟩
  | succ n ih =>
    have hlt : i < l.length := by omega
    cases hp : P l[i]
    · obtain ⟨k, h1, h2, h3, h4⟩ := ih (i + 1) (by omega) (by omega)
      refine ⟨k, by omega, h2, fun j hj g1 g2 => ?_, h4⟩
      by_cases hji : j = i
      · subst hji; exact hp
      · exact h3 j hj (by omega) g2
    · exact ⟨i, Nat.le_refl _, hi, fun j hj h1 h2 => by omega, fun _ => hp⟩

set_option maxRecDepth 100000 in
theorem eol_run (s : ByteArray) (i k : Nat) (hs : s.size ≤ 1000000000) (hik : i ≤ k) (hk : k ≤ s.size) (hno : ∀ j (hj : j < s.size), i ≤ j → j < k → ((s[j].toNat : Int) == 10) = false) (he : ∀ hk : k < s.size, ((s[k].toNat : Int) == 10) = true) (w : World) :
    Calls Tryd.prog 25 #[.string s, .int .i64 i] w fun e w' => e = .returned (.int .i64 k) ∧ w = w' := by
  have HN := Lib.hid hno
  have HE := Lib.hid he
  clear hno he
  go_enter Tryd.func25, Tryd.ntmps25
  go_wp2_with fail
  go_loop [1] (fun vi => ∃ j : Nat, i ≤ j ∧ j ≤ k ∧ vi = .int .i64 j) (fun vi => s.size + 1 - (intOf vi).toNat)
  case atStart => exact ⟨i, Nat.le_refl _, hik, rfl⟩
  case round =>
    obtain ⟨j, hj, hjk, rfl⟩ := hrel
    by_cases hlt : j < k
    · have hjs : j < s.size := by omega
      have h1 := HN.out j hjs hj hlt
      have h2 : ((s[j].toNat : Int) != 10) = true := by rw [bne, h1]; rfl
      have hz : decide ((j : Int) < s.size) = true := decide_eq_true (by omega)
      go_wp2_with fail
      go_round
      case rel => exact ⟨j + 1, by omega, by omega, by go_num⟩
      case measure => simp [intOf]; omega
    · obtain rfl : j = k := by omega
      by_cases hjs : j < s.size
      · have h1 := HE.out hjs
        have h2 : ((s[j].toNat : Int) != 10) = false := by rw [bne, h1]; rfl
        have hz : decide ((j : Int) < s.size) = true := decide_eq_true (by omega)
        go_wp2_with fail
        go_ret
        exact ⟨rfl, rfl⟩
      · have hz : decide ((j : Int) < s.size) = false := decide_eq_false (by omega)
        go_wp2_with fail
        go_ret
        exact ⟨rfl, rfl⟩

theorem eow_br (s : ByteArray) (i : Nat) (hs : s.size ≤ 1000000000) (hi : i < s.size) (hb : brI (s[i].toNat : Int) = true) (w : World) :
    Calls Tryd.prog 26 #[.string s, .int .i64 i] w fun e w' => e = .returned (.int .i64 (i + 1 : Nat)) ∧ w = w' := by
  go_enter Tryd.func26, Tryd.ntmps26
  go_wp2_with fail
  refine (isBracket_any _ _).mono ?_
  rintro e w' ⟨rfl, rfl⟩
  go_wp2_with fail
  go_ret
  exact ⟨by go_num, rfl⟩

set_option maxRecDepth 100000 in
theorem eow_run (s : ByteArray) (i k : Nat) (hs : s.size ≤ 1000000000) (hi : i < k) (hk : k ≤ s.size) (hno : ∀ j (hj : j < s.size), i ≤ j → j < k → enI (s[j].toNat : Int) = false) (he : ∀ hk : k < s.size, enI (s[k].toNat : Int) = true) (w : World) :
    Calls Tryd.prog 26 #[.string s, .int .i64 i] w fun e w' => e = .returned (.int .i64 k) ∧ w = w' := by
  have HN := Lib.hid hno
  have HE := Lib.hid he
  clear hno he
  have his : i < s.size := by omega
  have hb0 : brI (s[i].toNat : Int) = false := by
    have := HN.out i his (Nat.le_refl _) hi
    simp only [enI, Bool.or_eq_false_iff] at this
    exact this.1
  go_enter Tryd.func26, Tryd.ntmps26
  go_wp2_with fail
  refine (isBracket_any _ _).mono ?_
  rintro e w' ⟨rfl, rfl⟩
  go_wp2_with fail

  go_loop [1] (fun vi => ∃ j : Nat, i ≤ j ∧ j ≤ k ∧ vi = .int .i64 j) (fun vi => s.size + 1 - (intOf vi).toNat)
  case atStart => exact ⟨i, Nat.le_refl _, by omega, rfl⟩
  case round =>
    obtain ⟨j, hj, hjk, rfl⟩ := hrel
    by_cases hlt : j < k
    · have hjs : j < s.size := by omega
      have h0 := HN.out j hjs hj hlt
      simp only [enI, Bool.or_eq_false_iff] at h0
      obtain ⟨h1, h2, h3⟩ := h0
      have h4 : ((s[j].toNat : Int) != 59) = true := by rw [bne, h3]; rfl
      have hz : decide ((j : Int) < s.size) = true := decide_eq_true (by omega)
      go_wp2_with fail
      refine (isBracket_any _ _).mono ?_
      rintro e w' ⟨rfl, rfl⟩
      go_wp2_with fail
      refine (isSpace_any _ _).mono ?_
      rintro e w' ⟨rfl, rfl⟩
      go_wp2_with fail
      go_round
      case rel => exact ⟨j + 1, by omega, by omega, by go_num⟩
      case measure => simp [intOf]; omega
    · obtain rfl : j = k := by omega
      by_cases hjs : j < s.size
      · have h0 := HE.out hjs
        have hz : decide ((j : Int) < s.size) = true := decide_eq_true (by omega)
        cases h1 : brI (s[j].toNat : Int)
        · cases h2 : spI (s[j].toNat : Int)
          · have h3 : ((s[j].toNat : Int) == 59) = true := by simpa [enI, h1, h2] using h0
            have h4 : ((s[j].toNat : Int) != 59) = false := by rw [bne, h3]; rfl
            go_wp2_with fail
            refine (isBracket_any _ _).mono ?_
            rintro e w' ⟨rfl, rfl⟩
            go_wp2_with fail
            refine (isSpace_any _ _).mono ?_
            rintro e w' ⟨rfl, rfl⟩
            go_wp2_with fail
            go_ret
            exact ⟨rfl, rfl⟩
          · go_wp2_with fail
            refine (isBracket_any _ _).mono ?_
            rintro e w' ⟨rfl, rfl⟩
            go_wp2_with fail
            refine (isSpace_any _ _).mono ?_
            rintro e w' ⟨rfl, rfl⟩
            go_wp2_with fail
            go_ret
            exact ⟨rfl, rfl⟩
        · go_wp2_with fail
          refine (isBracket_any _ _).mono ?_
          rintro e w' ⟨rfl, rfl⟩
          go_wp2_with fail
          go_ret
          exact ⟨rfl, rfl⟩
      · have hz : decide ((j : Int) < s.size) = false := decide_eq_false (by omega)
        go_wp2_with fail
        go_ret
        exact ⟨rfl, rfl⟩
end Go.Proofs.YtlblhlnpmdfblaaDoor
