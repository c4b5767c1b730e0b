/- A text's nodes stand where their words are. No conditions. -/
import Derived.Test.YtlblhlnpmdfblaaDoorFoAt
namespace Go.Proofs.YtlblhlnpmdfblaaDoor

theorem ext_list' (s : ByteArray) (a b : Nat) : s.extract a b = ⟨((s.data.toList.drop a).take (b - a)).toArray⟩ := by
  apply ByteArray.ext
  rw [ByteArray.data_extract]
  apply Array.toList_inj.1
  rw [Array.toList_extract, List.extract_eq_take_drop]
/-- Words one behind the other, each at its bytes. -/
def Ch (s : ByteArray) : Nat → List (ByteArray × Nat) → Prop
  | _, [] => True
  | lo, w :: ws => lo ≤ w.2 ∧ 0 < w.1.size ∧ w.2 + w.1.size ≤ s.size ∧ s.extract w.2 (w.2 + w.1.size) = w.1 ∧ Ch s (w.2 + w.1.size) ws
theorem Ch.mono {s : ByteArray} {a b : Nat} {ws : List (ByteArray × Nat)} (h : Ch s b ws) (hab : a ≤ b) : Ch s a ws := by
  cases ws with
  | nil => trivial
  | cons w ws => exact ⟨Nat.le_trans hab h.1, h.2⟩
theorem piece (s : ByteArray) (st k : Nat) (hk : st + k ≤ s.size) : (⟨((s.data.toList.drop st).take k).toArray⟩ : ByteArray).size = k ∧ s.extract st (st + k) = ⟨((s.data.toList.drop st).take k).toArray⟩ := by
  constructor
  · rw [Lib.size_eq]
    show ((s.data.toList.drop st).take k).length = k
    rw [List.length_take, List.length_drop, ← Lib.size_eq]
    omega
  · rw [ext_list', Nat.add_sub_cancel_left]
theorem take_more {α : Type} (l : List α) (st k : Nat) (h : st + k < l.length) : (l.drop st).take k ++ [l[st + k]] = (l.drop st).take (k + 1) := by
  rw [List.take_succ_eq_append_getElem (by rw [List.length_drop]; omega)]
  simp

theorem wds_ch (s : ByteArray) : ∀ (n p : Nat), p + n = s.size →
    Ch s p (wds .gap p (s.data.toList.drop p)) ∧ Ch s p (wds .note p (s.data.toList.drop p)) ∧
    ∀ st, st < p → Ch s st (wds (.word st ((s.data.toList.drop st).take (p - st))) p (s.data.toList.drop p)) := by
  have hsl := Lib.size_eq s
  intro n
  induction n with
  | zero =>
    intro p hp
    rw [List.drop_of_length_le (by omega)]
    refine ⟨trivial, trivial, fun st hst => ?_⟩
    obtain ⟨h1, h2⟩ := piece s st (p - st) (by omega)
    refine ⟨Nat.le_refl _, ?_, ?_, ?_, trivial⟩
    · simp only [h1]; omega
    · simp only [h1]; omega
    · simp only [h1]; exact h2
  | succ n ih =>
    intro p hp
    obtain ⟨g1, g2, g3⟩ := ih (p + 1) (by omega)
    have hlt : p < s.data.toList.length := by omega
    have g4 := g3 p (by omega)
    have hone : (s.data.toList.drop p).take 1 = [s.data.toList[p]] := by
      rw [List.drop_eq_getElem_cons hlt]; rfl
    rw [Nat.add_sub_cancel_left, hone] at g4
    have hbr : 0 < (⟨#[s.data.toList[p]]⟩ : ByteArray).size ∧ p + (⟨#[s.data.toList[p]]⟩ : ByteArray).size = p + 1 ∧ s.extract p (p + 1) = ⟨#[s.data.toList[p]]⟩ := by
      obtain ⟨h1, h2⟩ := piece s p 1 (by omega)
      rw [hone] at h1 h2
      exact ⟨by show 0 < 1; omega, rfl, h2⟩
    obtain ⟨b1, b2, b3⟩ := hbr
    rw [List.drop_eq_getElem_cons hlt]
    refine ⟨?_, ?_, fun st hst => ?_⟩
    · rw [wds]
      split
      · exact g1.mono (by omega)
      · split
        · exact g2.mono (by omega)
        · split
          · refine ⟨Nat.le_refl _, b1, ?_, ?_, ?_⟩
            · simp only [b2]; omega
            · simp only [b2]; exact b3
            · simp only [b2]; exact g1
          · exact g4
    · rw [wds]
      split
      · exact g1.mono (by omega)
      · exact g2.mono (by omega)
    · have g5 := g3 st (by omega)
      have hm := take_more s.data.toList st (p - st) (by omega)
      simp only [show st + (p - st) = p by omega] at hm
      rw [show p + 1 - st = p - st + 1 by omega, ← hm] at g5
      obtain ⟨h1, h2⟩ := piece s st (p - st) (by omega)
      rw [show st + (p - st) = p by omega] at h2
      have hw : ∀ ws, Ch s p ws → Ch s st ((⟨((s.data.toList.drop st).take (p - st)).toArray⟩, st) :: ws) := fun ws hws => by
        refine ⟨Nat.le_refl _, ?_, ?_, ?_, ?_⟩
        · simp only [h1]; omega
        · simp only [h1]; omega
        · simp only [h1, show st + (p - st) = p by omega]; exact h2
        · simp only [h1, show st + (p - st) = p by omega]; exact hws
      rw [wds]
      split
      · exact hw _ (g1.mono (by omega))
      · split
        · exact hw _ (g2.mono (by omega))
        · split
          · refine hw _ ⟨Nat.le_refl _, b1, ?_, ?_, ?_⟩
            · simp only [b2]; omega
            · simp only [b2]; exact b3
            · simp only [b2]; exact g1
          · exact g5
theorem words_ch (s : ByteArray) : Ch s 0 (words s.data.toList) := by
  have h := (wds_ch s s.size 0 (by omega)).1
  rw [List.drop_zero] at h
  exact h

/-! ### The nodes -/
theorem FitF.mono {s : ByteArray} : ∀ {f : Fo} {lo hi hi' : Nat}, FitF s lo hi f → hi ≤ hi' → FitF s lo hi' f
  | .nil, _, _, _, _, _ => trivial
  | .word _ _ _, _, _, _, ⟨h1, h2, h3, h4, h5⟩, h => ⟨h1, h2, Nat.le_trans h3 h, h4, h5.mono h⟩
  | .list _ _ r, _, hi, hi', ⟨h1, h2, h3, h4, h5⟩, h => ⟨h1, Nat.lt_of_lt_of_le h2 h, h3, h4.mono (by cases r <;> first | exact h | exact Nat.le_refl _), h5.mono h⟩
theorem FitF.word {s : ByteArray} {t : ByteArray} {p q hi : Nat} (h1 : 0 < t.size) (h2 : p + t.size ≤ hi) (h3 : s.extract p (p + t.size) = t) (hq : q ≤ p) : ∀ {f : Fo} {lo : Nat}, lo ≤ q → FitF s lo q f → FitF s lo hi (f.app (.word t p .nil))
  | .nil, _, hl, _ => ⟨Nat.le_trans hl hq, h1, h2, h3, trivial⟩
  | .word _ _ _, _, _, ⟨g1, g2, g3, g4, g5⟩ => ⟨g1, g2, by omega, g4, g5.word h1 h2 h3 hq g3⟩
  | .list _ _ r, _, _, ⟨g1, g2, g3, g4, g5⟩ => ⟨g1, by omega, g3, g4.mono (by cases r <;> first | exact hq | exact Nat.le_refl _), g5.word h1 h2 h3 hq g2⟩
theorem FitF.list {s : ByteArray} {sub : Fo} {p q hi : Nat} (h1 : p < hi) (h2 : ∃ h : p < s.size, (s[p].toNat : Int) = 40) (h3 : FitF s (p + 1) hi sub) (hq : q ≤ p) : ∀ {f : Fo} {lo : Nat}, lo ≤ q → FitF s lo q f → FitF s lo hi (f.app (.list sub p .nil))
  | .nil, _, hl, _ => ⟨Nat.le_trans hl hq, h1, h2, h3, trivial⟩
  | .word _ _ _, _, _, ⟨g1, g2, g3, g4, g5⟩ => ⟨g1, g2, by omega, g4, FitF.list h1 h2 h3 hq g3 g5⟩
  | .list _ _ r, _, _, ⟨g1, g2, g3, g4, g5⟩ => ⟨g1, by omega, g3, g4.mono (by cases r <;> first | exact hq | exact Nat.le_refl _), FitF.list h1 h2 h3 hq g2 g5⟩
/-- What is open fits. -/
def FitS (s : ByteArray) : Nat → List (Fo × Nat) → Prop
  | _, [] => True
  | q, x :: st => x.2 < q ∧ (∃ h : x.2 < s.size, (s[x.2].toNat : Int) = 40) ∧ (∃ lo, FitF s lo x.2 x.1 ∧ lo ≤ x.2 ∧ lo = (match st with | [] => 0 | y :: _ => y.2 + 1)) ∧ FitS s x.2 st
def baseS : List (Fo × Nat) → Nat
  | [] => 0
  | y :: _ => y.2 + 1
theorem open_at (s t : ByteArray) (p : Nat) (h : isOpen t = true) (hs : s.extract p (p + t.size) = t) (hp : p + t.size ≤ s.size) : t.size = 1 ∧ ∃ h : p < s.size, (s[p].toNat : Int) = 40 := by
  unfold isOpen at h
  rw [ByteArray.toList_eq] at h
  have ht : t.data.toList = [40] := by simpa using h
  have hz : t.size = 1 := by rw [Lib.size_eq, ht]; rfl
  refine ⟨hz, by omega, ?_⟩
  rw [hz, ext_list', Nat.add_sub_cancel_left] at hs
  have hlt : p < s.data.toList.length := by rw [← Lib.size_eq]; omega
  rw [List.drop_eq_getElem_cons hlt] at hs
  have h1 : t.data.toList = [s.data.toList[p]] := by rw [← hs]; rfl
  rw [ht] at h1
  injection h1 with h1
  have h2 : s.data.toList[p] = s[p]'(by omega) := by rw [Array.getElem_toList]; rfl
  rw [← h2, ← h1]
  rfl
theorem rdW_fit (s : ByteArray) (ws : List (ByteArray × Nat)) : ∀ (st : List (Fo × Nat)) (cur f : Fo) (q : Nat), rdW st cur ws = .ok f → Ch s q ws → FitS s q st → FitF s (baseS st) q cur → baseS st ≤ q → q ≤ s.size → FitF s 0 s.size f := by
  induction ws with
  | nil =>
    intro st cur f q h hc hS hF hb hq
    cases st with
    | nil => rw [rdW] at h; injection h with h; subst h; exact hF.mono hq
    | cons x st => rw [rdW] at h; cases h
  | cons w ws ih =>
    intro st cur f q h hc hS hF hb hq
    obtain ⟨c1, c2, c3, c4, c5⟩ := hc
    rw [rdW.eq_def] at h
    simp only at h
    split at h
    · rename_i ho
      obtain ⟨o1, o2⟩ := open_at s w.1 w.2 ho c4 c3
      split at h
      · cases h
      · refine ih _ _ _ (w.2 + w.1.size) h c5 ?_ trivial ?_ c3
        · refine ⟨by simp only; omega, o2, ⟨baseS st, hF.mono c1, Nat.le_trans hb c1, by cases st <;> rfl⟩, ?_⟩
          cases st with
          | nil => trivial
          | cons y st => obtain ⟨y1, y2⟩ := hS; exact ⟨by simp only; omega, y2⟩
        · simp only [baseS]; omega
    · split at h
      · cases st with
        | nil => cases h
        | cons x st =>
          obtain ⟨x1, x2, ⟨lo, x3, x4, x5⟩, x6⟩ := hS
          have hlo : lo = baseS st := by rw [x5]; cases st <;> rfl
          subst hlo
          refine ih _ _ _ (w.2 + w.1.size) h c5 ?_ ?_ (by omega) c3
          · cases st with
            | nil => trivial
            | cons y st => obtain ⟨y1, y2⟩ := x6; exact ⟨by omega, y2⟩
          · exact FitF.list (by omega) x2 (hF.mono (by omega)) (Nat.le_refl _) x4 x3
      · refine ih _ _ _ (w.2 + w.1.size) h c5 ?_ ?_ (by omega) c3
        · cases st with
          | nil => trivial
          | cons y st => obtain ⟨y1, y2⟩ := hS; exact ⟨by omega, y2⟩
        · exact hF.word c2 (Nat.le_refl _) c4 c1 hb
theorem fit_wok {s : ByteArray} : ∀ {f : Fo} {lo hi : Nat}, FitF s lo hi f → f.wok
  | .nil, _, _, _ => trivial
  | .word _ _ _, _, _, ⟨_, h2, _, _, h5⟩ => ⟨emp_is _ h2, fit_wok h5⟩
  | .list _ _ _, _, _, ⟨_, _, _, h4, h5⟩ => ⟨fit_wok h4, fit_wok h5⟩
/-- Each node of a text that may be read stands where its word is, within its list. -/
theorem parse_fit (s : ByteArray) (f : Fo) (h : parseF s.data.toList = .ok f) : FitF s 0 s.size f :=
  rdW_fit s _ [] .nil f 0 h (words_ch s) trivial trivial (Nat.le_refl _) (Nat.zero_le _)
end Go.Proofs.YtlblhlnpmdfblaaDoor
