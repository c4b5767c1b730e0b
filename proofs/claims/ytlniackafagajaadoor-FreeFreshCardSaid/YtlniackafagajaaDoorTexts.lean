/- gristmillref's Place, Has and SameTexts over lists of texts. Conditions: the lists' cells read as they do. -/
import Derived.Test.YtlniackafagajaaDoorRows
import Derived.WalkKit
import Derived.WalkSpells
import Derived.WalkLawsBesides
import Derived.Lib.Hide
import Derived.RegionTactic
import Derived.Deep.QuietTactic
import Derived.BigQuiet
namespace Go.Proofs.YtlniackafagajaaDoor
open Go.RowKit

/-- A row of texts in memory. -/
def Txts (w : World) (b o : Nat) (l : List ByteArray) : Prop := ∀ k (h : k < l.length), w.cell? ⟨b, o + k, none⟩ = some (.string l[k])
theorem Txts.below {w w' : World} {b o : Nat} {l : List ByteArray} (h : Txts w b o l) (B : Nat) (hb : Below B w w') (hB : b < B) : Txts w' b o l := fun k hk => by
  rw [hb.cell (p := ⟨b, o + k, none⟩) hB]; exact h k hk

/-- The first place of a text; -1. -/
def placeI : List ByteArray → ByteArray → Int
  | [], _ => -1
  | x :: l, s => if x.toList == s.toList then 0 else if placeI l s < 0 then -1 else placeI l s + 1
theorem placeI_none (l : List ByteArray) (s : ByteArray) (h : ∀ k (hk : k < l.length), (l[k].toList == s.toList) = false) : placeI l s = -1 := by
  induction l with
  | nil => rfl
  | cons x l ih =>
    have h0 := h 0 (by simp)
    have := ih fun k hk => by have := h (k + 1) (by simp; omega); simpa using this
    unfold placeI
    rw [this]
    simp only [List.getElem_cons_zero] at h0
    rw [h0]
    rfl
theorem placeI_at (l : List ByteArray) (s : ByteArray) : ∀ (i : Nat) (hi : i < l.length), (∀ k (_ : k < i), (l[k].toList == s.toList) = false) → (l[i].toList == s.toList) = true → placeI l s = i := by
  induction l with
  | nil => intro i hi; simp at hi
  | cons x l ih =>
    intro i hi h h1
    unfold placeI
    cases i with
    | zero =>
      simp only [List.getElem_cons_zero] at h1
      rw [h1]; rfl
    | succ i =>
      have h0 := h 0 (by omega)
      simp only [List.getElem_cons_zero] at h0
      have e := ih i (by simpa using hi) (fun k hk => by have := h (k + 1) (by omega); simpa using this) (by simpa using h1)
      rw [h0, e]
      simp
      omega

set_option maxRecDepth 100000 in
set_option maxHeartbeats 1000000 in
theorem place_run (l : List ByteArray) (cap b o : Nat) (s : ByteArray) (w : World) (hl : l.length ≤ 1000000000) (hc : Txts w b o l) (i : Nat) (hi : i ≤ l.length) (hno : ∀ k (_ : k < i), (l[k].toList == s.toList) = false) (hyes : ∀ _ : i < l.length, (l[i].toList == s.toList) = true) :
    Calls Tryd.prog 19 #[.slice (some ⟨b, o, none⟩) l.length cap, .string s] w fun e w' => e = .returned (.int .i64 (if i < l.length then (i : Int) else -1)) ∧ w = w' := by
  have HC := Lib.hid hc
  have HN := Lib.hid hno
  have HY := Lib.hid hyes
  clear hc hno hyes
  obtain ⟨n, hn⟩ : ∃ n, n = l.length := ⟨_, rfl⟩
  rw [← hn] at hl hi ⊢
  have HL := Lib.hid hn
  clear hn
  go_enter Tryd.func19, Tryd.ntmps19
  go_wp2_with fail
  go_loop [5] (fun vi => ∃ k : Nat, k ≤ i ∧ vi = .int .i64 k) (fun vi => n + 1 - (intOf vi).toNat)
  case atStart => exact ⟨0, by omega, rfl⟩
  case round =>
    obtain ⟨k, hk, rfl⟩ := hrel
    by_cases hki : k < i
    · have hkn : k < n := by omega
      have hkl : k < l.length := by rw [← HL.out]; exact hkn
      have hcell := HC.out k hkl
      have hne := HN.out k hki
      go_wp2_with fail
      go_round
      case rel => exact ⟨k + 1, by omega, by go_num⟩
      case measure => simp [intOf]; omega
    · obtain rfl : k = i := by omega
      by_cases hkn : k < n
      · have hkl : k < l.length := by rw [← HL.out]; exact hkn
        have hcell := HC.out k hkl
        have heq := HY.out hkl
        go_wp2_with fail
        go_ret
        exact ⟨rfl, rfl⟩
      · go_wp2_with fail
        go_ret
        exact ⟨rfl, rfl⟩

theorem first_place (l : List ByteArray) (s : ByteArray) : ∃ i, i ≤ l.length ∧ (∀ k (_ : k < i) (hk : k < l.length), (l[k].toList == s.toList) = false) ∧ ∀ h : i < l.length, (l[i].toList == s.toList) = true := by
  induction l with
  | nil => exact ⟨0, by simp, fun k hk => absurd hk (by omega), fun h => absurd h (by simp)⟩
  | cons x l ih =>
    cases hx : (x.toList == s.toList)
    · obtain ⟨i, h1, h2, h3⟩ := ih
      refine ⟨i + 1, by simpa using h1, fun k hk hk2 => ?_, fun h => by simpa using h3 (by simpa using h)⟩
      cases k with
      | zero => simpa using hx
      | succ k => simpa using h2 k (by omega) (by simpa using hk2)
    · exact ⟨0, by simp, fun k hk => absurd hk (by omega), fun _ => by simpa using hx⟩

/-- Place, of any list. -/
theorem place_any (l : List ByteArray) (cap b o : Nat) (s : ByteArray) (w : World) (hl : l.length ≤ 1000000000) (hc : Txts w b o l) :
    Calls Tryd.prog 19 #[.slice (some ⟨b, o, none⟩) l.length cap, .string s] w fun e w' => e = .returned (.int .i64 (placeI l s)) ∧ w = w' := by
  obtain ⟨i, h1, h2, h3⟩ := first_place l s
  have e : placeI l s = if i < l.length then (i : Int) else -1 := by
    by_cases hi : i < l.length
    · rw [if_pos hi]; exact placeI_at l s i hi (fun k hk => h2 k hk (by omega)) (h3 hi)
    · rw [if_neg hi]; exact placeI_none l s fun k hk => h2 k (by omega) hk
  rw [e]
  exact place_run l cap b o s w hl hc i h1 (fun k hk => h2 k hk (by omega)) h3

def hasB (l : List ByteArray) (s : ByteArray) : Bool := l.any fun x => x.toList == s.toList
theorem hasB_eq (l : List ByteArray) (s : ByteArray) : decide (0 ≤ placeI l s) = hasB l s := by
  induction l with
  | nil => rfl
  | cons x l ih =>
    unfold placeI hasB
    rw [List.any_cons]
    cases hx : (x.toList == s.toList)
    · simp only [Bool.false_or, Bool.false_eq_true, if_false]
      have ih' : decide (0 ≤ placeI l s) = (l.any fun x => x.toList == s.toList) := ih
      rw [← ih']
      by_cases h : placeI l s < 0
      · rw [if_pos h]; simp; omega
      · rw [if_neg h]; simp; omega
    · simp

set_option maxRecDepth 100000 in
/-- Has, of any list. -/
theorem has_any (l : List ByteArray) (cap b o : Nat) (s : ByteArray) (w : World) (hl : l.length ≤ 1000000000) (hc : Txts w b o l) :
    Calls Tryd.prog 9 #[.slice (some ⟨b, o, none⟩) l.length cap, .string s] w fun e w' => e = .returned (.bool (hasB l s)) ∧ w = w' := by
  have H := Lib.hid (place_any l cap b o s w hl hc)
  rw [← hasB_eq]
  obtain ⟨p, hp⟩ : ∃ p, p = placeI l s := ⟨_, rfl⟩
  rw [← hp] at H ⊢
  clear hp hc hl
  obtain ⟨n, hn⟩ : ∃ n, n = l.length := ⟨_, rfl⟩
  rw [← hn] at H ⊢
  clear hn
  go_enter Tryd.func9, Tryd.ntmps9
  go_wp2_with fail
  refine H.out.mono ?_
  rintro e w' ⟨rfl, rfl⟩
  go_wp2_with fail
  go_ret
  exact ⟨rfl, rfl⟩

end Go.Proofs.YtlniackafagajaaDoor
