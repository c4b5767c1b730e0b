/- Forests: what the words of a text are as nodes, as plain functions; what is true of them. No conditions. -/
import Derived.Test.YtlblhlnpmdfblaaDoorWrd
import Derived.WalkKit
import Derived.WalkSpells
namespace Go.Proofs.YtlblhlnpmdfblaaDoor

/-- Nodes, one behind the other. -/
inductive Fo where
  | nil
  | word (t : ByteArray) (p : Nat) (r : Fo)
  | list (sub : Fo) (p : Nat) (r : Fo)

namespace Fo
def len : Fo → Nat
  | nil => 0
  | word _ _ r => r.len + 1
  | list _ _ r => r.len + 1
def app : Fo → Fo → Fo
  | nil, b => b
  | word t p r, b => word t p (r.app b)
  | list s p r, b => list s p (r.app b)
/-- How many lists are within one another. -/
def deep : Fo → Nat
  | nil => 0
  | word _ _ r => r.deep
  | list s _ r => max (s.deep + 1) r.deep
/-- No word is empty. -/
def wok : Fo → Prop
  | nil => True
  | word t _ r => t.toList.isEmpty = false ∧ r.wok
  | list s _ r => s.wok ∧ r.wok
/-- But for the places. -/
def same : Fo → Fo → Bool
  | nil, nil => true
  | word t _ r, word t' _ r' => t.toList == t'.toList && r.same r'
  | list s _ r, list s' _ r' => s.same s' && r.same r'
  | _, _ => false
/-- So much further on. -/
def on (d : Nat) : Fo → Fo
  | nil => nil
  | word t p r => word t (p + d) (r.on d)
  | list s p r => list (s.on d) (p + d) (r.on d)
theorem app_nil (a : Fo) : a.app nil = a := by induction a <;> simp_all [app]
theorem app_assoc (a b c : Fo) : (a.app b).app c = a.app (b.app c) := by induction a <;> simp_all [app]
theorem app_len (a b : Fo) : (a.app b).len = a.len + b.len := by induction a <;> simp_all [app, len] <;> omega
theorem deep_app (a b : Fo) : (a.app b).deep = max a.deep b.deep := by induction a <;> simp_all [app, deep] <;> omega
theorem on_app (d : Nat) (a b : Fo) : (a.app b).on d = (a.on d).app (b.on d) := by induction a <;> simp_all [app, on]
theorem on_len (d : Nat) (a : Fo) : (a.on d).len = a.len := by induction a <;> simp_all [len, on]
theorem on_deep (d : Nat) (a : Fo) : (a.on d).deep = a.deep := by induction a <;> simp_all [deep, on]
theorem same_on (d : Nat) (a : Fo) : (a.on d).same a = true := by induction a <;> simp_all [same, on]
theorem same_refl (a : Fo) : a.same a = true := by induction a <;> simp_all [same]
theorem same_app (a b c : Fo) (h : b.same c = true) : (a.app b).same (a.app c) = true := by
  induction a with
  | nil => exact h
  | word t p r ih => simp [app, same, ih]
  | list s p r ih1 ih2 => simp [app, same, same_refl, ih2]
theorem same_len (a b : Fo) (h : a.same b = true) : a.len = b.len := by
  induction a generalizing b with
  | nil => cases b <;> simp_all [same, len]
  | word t p r ih => cases b <;> simp_all [same, len]; exact ih _ h.2
  | list s p r ih1 ih2 => cases b <;> simp_all [same, len]; exact ih2 _ h.2
end Fo

/-- How reading ends. -/
inductive Rd where
  | ok (f : Fo)
  | deepAt (p : Nat)
  | openAt (p : Nat)
  | closeAt (p : Nat)

def isOpen (t : ByteArray) : Bool := t.toList == [40]
def isClose (t : ByteArray) : Bool := t.toList == [41]

/-- Word by word, with what is open (what stood ahead of each, and its place). -/
def rdW : List (Fo × Nat) → Fo → List (ByteArray × Nat) → Rd
  | [], cur, [] => .ok cur
  | x :: _, _, [] => .openAt x.2
  | st, cur, w :: ws =>
    if isOpen w.1 then (if 200 ≤ st.length then .deepAt w.2 else rdW ((cur, w.2) :: st) .nil ws)
    else if isClose w.1 then (match st with | [] => .closeAt w.2 | x :: st' => rdW st' (x.1.app (.list cur x.2 .nil)) ws)
    else rdW st (cur.app (.word w.1 w.2 .nil)) ws
def parseF (l : List UInt8) : Rd := rdW [] .nil (words l)

/-! ### Two texts -/
def Rd.fo : Rd → Option Fo
  | .ok f => some f
  | _ => none
theorem rdW_app (ws vs : List (ByteArray × Nat)) : ∀ (st : List (Fo × Nat)) (cur f : Fo), rdW st cur ws = .ok f → rdW st cur (ws ++ vs) = rdW [] f vs := by
  induction ws with
  | nil =>
    intro st cur f h
    cases st with
    | nil => rw [rdW] at h; injection h with h; subst h; rfl
    | cons x st => rw [rdW] at h; cases h
  | cons w ws ih =>
    intro st cur f h
    rw [List.cons_append]
    rw [rdW.eq_def] at h ⊢
    simp only at h ⊢
    split at h
    · rename_i ho
      rw [if_pos ho]
      split at h
      · cases h
      · rename_i hn
        rw [if_neg hn]
        exact ih _ _ _ h
    · rename_i ho
      rw [if_neg ho]
      split at h
      · rename_i hc
        rw [if_pos hc]
        cases st with
        | nil => cases h
        | cons x st => exact ih _ _ _ h
      · rename_i hc
        rw [if_neg hc]
        exact ih _ _ _ h
def onS (d : Nat) (st : List (Fo × Nat)) : List (Fo × Nat) := st.map fun x => (x.1.on d, x.2 + d)
/-- Moved on, it is read the same. -/
theorem rdW_on (d : Nat) (ws : List (ByteArray × Nat)) : ∀ (st : List (Fo × Nat)) (cur f : Fo), rdW st cur ws = .ok f → rdW (onS d st) (cur.on d) (on d ws) = .ok (f.on d) := by
  induction ws with
  | nil =>
    intro st cur f h
    cases st with
    | nil => rw [rdW] at h; injection h with h; subst h; rfl
    | cons x st => rw [rdW] at h; cases h
  | cons w ws ih =>
    intro st cur f h
    show rdW (onS d st) (cur.on d) ((w.1, w.2 + d) :: on d ws) = _
    rw [rdW.eq_def] at h ⊢
    simp only at h ⊢
    split at h
    · rename_i ho
      rw [if_pos ho]
      split at h
      · cases h
      · rename_i hn
        rw [if_neg (by unfold onS; rw [List.length_map]; exact hn)]
        exact ih _ _ _ h
    · rename_i ho
      rw [if_neg ho]
      split at h
      · rename_i hc
        rw [if_pos hc]
        cases st with
        | nil => cases h
        | cons x st =>
          have := ih _ _ _ h
          rw [Fo.on_app] at this
          exact this
      · rename_i hc
        rw [if_neg hc]
        have := ih _ _ _ h
        rw [Fo.on_app] at this
        exact this
/-- With something ahead, it is read behind it. -/
theorem rdW_pre (a : Fo) (ws : List (ByteArray × Nat)) : ∀ (st : List (Fo × Nat)) (cur f : Fo), rdW st cur ws = .ok f →
    (st = [] → rdW [] (a.app cur) ws = .ok (a.app f)) ∧ (∀ st' x, st = st' ++ [x] → rdW (st' ++ [(a.app x.1, x.2)]) cur ws = .ok (a.app f)) := by
  induction ws with
  | nil =>
    intro st cur f h
    cases st with
    | nil =>
      rw [rdW] at h; injection h with h; subst h
      exact ⟨fun _ => rfl, fun st' x e => by simp at e⟩
    | cons x st => rw [rdW] at h; cases h
  | cons w ws ih =>
    intro st cur f h
    rw [rdW.eq_def] at h
    simp only at h
    refine ⟨fun e => ?_, fun st' x e => ?_⟩
    · subst e
      rw [rdW.eq_def]
      simp only
      split at h
      · rename_i ho
        rw [if_pos ho]
        split at h
        · cases h
        · rename_i hn
          rw [if_neg hn]
          exact (ih _ _ _ h).2 [] (cur, w.2) rfl
      · rename_i ho
        rw [if_neg ho]
        split at h
        · cases h
        · rename_i hc
          rw [if_neg hc]
          have := (ih _ _ _ h).1 rfl
          rw [← Fo.app_assoc] at this
          exact this
    · subst e
      rw [rdW.eq_def]
      simp only
      split at h
      · rename_i ho
        rw [if_pos ho]
        split at h
        · cases h
        · rename_i hn
          rw [if_neg (by simpa using hn)]
          exact (ih _ _ _ h).2 ((cur, w.2) :: st') x rfl
      · rename_i ho
        rw [if_neg ho]
        split at h
        · rename_i hc
          rw [if_pos hc]
          cases st' with
          | nil =>
            have := (ih _ _ _ h).1 rfl
            rw [← Fo.app_assoc] at this
            exact this
          | cons y st' => exact (ih _ _ _ h).2 st' x rfl
        · rename_i hc
          rw [if_neg hc]
          exact (ih _ _ _ h).2 st' x rfl

/-! ### Within brackets -/
/-- The depth that is sure already: what is open, each with what stands ahead of it. -/
def sure : List (Fo × Nat) → Fo → Nat
  | [], cur => cur.deep
  | x :: st, cur => max (st.length + 1 + cur.deep) (sure st x.1)
theorem sure_ge (st : List (Fo × Nat)) (cur : Fo) : st.length + cur.deep ≤ sure st cur := by
  cases st with
  | nil => simp [sure]
  | cons x st => simp only [sure, List.length_cons]; omega
theorem sure_mono (st : List (Fo × Nat)) (a b : Fo) (h : a.deep ≤ b.deep) : sure st a ≤ sure st b := by
  cases st with
  | nil => exact h
  | cons x st => simp only [sure]; omega
theorem sure_app (st : List (Fo × Nat)) (a b : Fo) (m : Nat) (h1 : sure st a ≤ m) (h2 : st.length + b.deep ≤ m) : sure st (a.app b) ≤ m := by
  cases st with
  | nil => simp only [sure, Fo.deep_app, List.length_nil] at *; omega
  | cons x st => simp only [sure, Fo.deep_app, List.length_cons] at *; omega
theorem rdW_deep (ws : List (ByteArray × Nat)) : ∀ (st : List (Fo × Nat)) (cur f : Fo), rdW st cur ws = .ok f → sure st cur ≤ f.deep := by
  induction ws with
  | nil =>
    intro st cur f h
    cases st with
    | nil => rw [rdW] at h; injection h with h; subst h; exact Nat.le_refl _
    | cons x st => rw [rdW] at h; cases h
  | cons w ws ih =>
    intro st cur f h
    rw [rdW.eq_def] at h
    simp only at h
    split at h
    · split at h
      · cases h
      · have h1 := ih _ _ _ h
        simp only [sure] at h1
        omega
    · split at h
      · cases st with
        | nil => cases h
        | cons x st =>
          have h1 := ih _ _ _ h
          have h2 := sure_ge st (x.1.app (.list cur x.2 .nil))
          have h3 := sure_mono st x.1 (x.1.app (.list cur x.2 .nil)) (by rw [Fo.deep_app]; omega)
          rw [Fo.deep_app] at h2
          simp only [sure, Fo.deep] at h2 ⊢
          omega
      · have h1 := ih _ _ _ h
        have h3 := sure_mono st cur (cur.app (.word w.1 w.2 .nil)) (by rw [Fo.deep_app]; omega)
        omega
/-- What may be read may be read within brackets, as long as there are not too many. -/
theorem rdW_base (base : List (Fo × Nat)) (ws vs : List (ByteArray × Nat)) : ∀ (st : List (Fo × Nat)) (cur f : Fo), rdW st cur ws = .ok f → f.deep + base.length ≤ 200 → rdW (st ++ base) cur (ws ++ vs) = rdW base f vs := by
  induction ws with
  | nil =>
    intro st cur f h hd
    cases st with
    | nil => rw [rdW] at h; injection h with h; subst h; rfl
    | cons x st => rw [rdW] at h; cases h
  | cons w ws ih =>
    intro st cur f h hd
    have hs := rdW_deep (w :: ws) st cur f h
    rw [List.cons_append]
    rw [rdW.eq_def] at h ⊢
    simp only at h ⊢
    split at h
    · rename_i ho
      rw [if_pos ho]
      split at h
      · cases h
      · have h1 := rdW_deep ws _ _ _ h
        have h2 := sure_ge ((cur, w.2) :: st) .nil
        simp only [List.length_cons, Fo.deep] at h2
        rw [if_neg (by rw [List.length_append]; omega)]
        exact ih _ _ _ h hd
    · rename_i ho
      rw [if_neg ho]
      split at h
      · rename_i hc
        rw [if_pos hc]
        cases st with
        | nil => cases h
        | cons x st => exact ih _ _ _ h hd
      · rename_i hc
        rw [if_neg hc]
        exact ih _ _ _ h hd

/-- So many brackets around a forest: the places of the brackets count up from p. -/
def wrapF (f : Fo) : Nat → Nat → Fo
  | _, 0 => f
  | p, n + 1 => .list (wrapF f (p + 1) n) p .nil
def opens (p : Nat) : Nat → List (ByteArray × Nat)
  | 0 => []
  | n + 1 => (⟨#[40]⟩, p) :: opens (p + 1) n
def shuts (p : Nat) : Nat → List (ByteArray × Nat)
  | 0 => []
  | n + 1 => (⟨#[41]⟩, p) :: shuts (p + 1) n
def stN (p : Nat) : Nat → List (Fo × Nat)
  | 0 => []
  | n + 1 => stN (p + 1) n ++ [(.nil, p)]
theorem stN_len (n : Nat) : ∀ p, (stN p n).length = n := by
  induction n with
  | zero => intro p; rfl
  | succ n ih => intro p; rw [stN, List.length_append, ih]; rfl
theorem open_is : isOpen ⟨#[40]⟩ = true := by unfold isOpen; rw [ByteArray.toList_eq]; rfl
theorem close_not : isOpen ⟨#[41]⟩ = false := by unfold isOpen; rw [ByteArray.toList_eq]; rfl
theorem close_is : isClose ⟨#[41]⟩ = true := by unfold isClose; rw [ByteArray.toList_eq]; rfl
theorem rdW_opens (ws : List (ByteArray × Nat)) (n : Nat) : ∀ (p : Nat) (st : List (Fo × Nat)), st.length + n ≤ 200 → rdW st .nil (opens p n ++ ws) = rdW (stN p n ++ st) .nil ws := by
  induction n with
  | zero => intro p st _; rfl
  | succ n ih =>
    intro p st h
    show rdW st .nil ((⟨#[40]⟩, p) :: (opens (p + 1) n ++ ws)) = _
    rw [rdW.eq_def]
    simp only
    rw [if_pos open_is, if_neg (by omega), ih (p + 1) ((.nil, p) :: st) (by simp only [List.length_cons]; omega), stN, List.append_assoc]
    rfl
theorem rdW_shuts (n : Nat) : ∀ (ws : List (ByteArray × Nat)) (p q : Nat) (st : List (Fo × Nat)) (f : Fo), rdW (stN p n ++ st) f (shuts q n ++ ws) = rdW st (wrapF f p n) ws := by
  induction n with
  | zero => intro ws p q st f; rfl
  | succ n ih =>
    intro ws p q st f
    have e : shuts q (n + 1) ++ ws = shuts q n ++ ((⟨#[41]⟩, q + n) :: ws) := by
      have : ∀ m q, shuts q (m + 1) = shuts q m ++ [(⟨#[41]⟩, q + m)] := by
        intro m
        induction m with
        | zero => intro q; rfl
        | succ m ih => intro q; rw [shuts, ih, shuts, show q + 1 + m = q + (m + 1) by omega]; rfl
      rw [this, List.append_assoc]; rfl
    rw [e, stN, List.append_assoc, ih _ (p + 1) q ([((Fo.nil : Fo), p)] ++ st) f]
    show rdW ((.nil, p) :: st) _ _ = _
    rw [rdW.eq_def]
    simp only
    rw [if_neg (by rw [close_not]; simp), if_pos close_is]
    rfl
theorem rdW_wraps (ws : List (ByteArray × Nat)) (f : Fo) (n p q : Nat) (h : rdW [] .nil ws = .ok f) (hd : f.deep + n ≤ 200) : rdW [] .nil (opens p n ++ (ws ++ shuts q n)) = .ok (wrapF f p n) := by
  rw [rdW_opens _ n p [] (by simp only [List.length_nil]; omega), List.append_nil]
  have h1 := rdW_base (stN p n) ws (shuts q n) [] .nil f h (by rw [stN_len]; exact hd)
  rw [List.nil_append] at h1
  rw [h1]
  have h2 := rdW_shuts n [] p q [] f
  rw [List.append_nil, List.append_nil] at h2
  rw [h2]
  rfl
end Go.Proofs.YtlblhlnpmdfblaaDoor
