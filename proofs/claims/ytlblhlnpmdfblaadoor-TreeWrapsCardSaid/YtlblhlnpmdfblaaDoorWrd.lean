/- The words of bytes, and which of them are names, as plain functions; what is true of them. No conditions. -/
import Derived.Test.YtlblhlnpmdfblaaDoorRows
import Derived.Lib.Hide
namespace Go.Proofs.YtlblhlnpmdfblaaDoor

def spI (c : Int) : Bool := c == 32 || (c == 9 || (c == 10 || c == 13))
def brI (c : Int) : Bool := c == 40 || c == 41
/-- Ends a word. -/
def enI (c : Int) : Bool := brI c || (spI c || c == 59)

inductive Ph where
  | gap
  | note
  | word (st : Nat) (acc : List UInt8)

/-- The words from here on, in order, each with its place. -/
def wds : Ph → Nat → List UInt8 → List (ByteArray × Nat)
  | .gap, _, [] => []
  | .note, _, [] => []
  | .word st acc, _, [] => [(⟨acc.toArray⟩, st)]
  | .gap, p, c :: r =>
    if spI (c.toNat : Int) then wds .gap (p + 1) r
    else if (c.toNat : Int) == 59 then wds .note (p + 1) r
    else if brI (c.toNat : Int) then (⟨#[c]⟩, p) :: wds .gap (p + 1) r
    else wds (.word p [c]) (p + 1) r
  | .note, p, c :: r => if (c.toNat : Int) == 10 then wds .gap (p + 1) r else wds .note (p + 1) r
  | .word st acc, p, c :: r =>
    if spI (c.toNat : Int) then (⟨acc.toArray⟩, st) :: wds .gap (p + 1) r
    else if (c.toNat : Int) == 59 then (⟨acc.toArray⟩, st) :: wds .note (p + 1) r
    else if brI (c.toNat : Int) then (⟨acc.toArray⟩, st) :: (⟨#[c]⟩, p) :: wds .gap (p + 1) r
    else wds (.word st (acc ++ [c])) (p + 1) r

def words (l : List UInt8) : List (ByteArray × Nat) := wds .gap 0 l

/-! ### What a scan does -/
theorem wds_gap_end (p : Nat) (l : List UInt8) (i : Nat) (h : l.length ≤ i) : wds .gap p (l.drop i) = [] := by
  rw [List.drop_of_length_le h]; rfl
theorem wds_sp (l : List UInt8) (i : Nat) (h : i < l.length) (hc : spI (l[i].toNat : Int) = true) : wds .gap i (l.drop i) = wds .gap (i + 1) (l.drop (i + 1)) := by
  rw [List.drop_eq_getElem_cons h, wds, if_pos hc]
theorem wds_br (l : List UInt8) (i : Nat) (h : i < l.length) (hs : spI (l[i].toNat : Int) = false) (h5 : ((l[i].toNat : Int) == 59) = false) (hb : brI (l[i].toNat : Int) = true) :
    wds .gap i (l.drop i) = (⟨((l.drop i).take 1).toArray⟩, i) :: wds .gap (i + 1) (l.drop (i + 1)) := by
  rw [List.drop_eq_getElem_cons h, wds, if_neg (by simp [hs]), if_neg (by simp [h5]), if_pos hb]; rfl

/-- Within a note: up to a line's end, or the end. -/
theorem wds_note_run (l : List UInt8) (i : Nat) : ∀ n, i + n ≤ l.length → (∀ j (hj : j < l.length), i ≤ j → j < i + n → ((l[j].toNat : Int) == 10) = false) → wds .note i (l.drop i) = wds .note (i + n) (l.drop (i + n)) := by
  intro n
  induction n with
  | zero => intro _ _; rfl
  | succ n ih =>
    intro hn hj
    rw [ih (by omega) (fun j h1 h2 h3 => hj j h1 h2 (by omega))]
    rw [List.drop_eq_getElem_cons (show i + n < l.length by omega), wds, if_neg (by simp [hj (i + n) (by omega) (by omega) (by omega)])]
    rfl
theorem wds_note_end (l : List UInt8) (k : Nat) (h : ∀ hk : k < l.length, ((l[k].toNat : Int) == 10) = true) : wds .note k (l.drop k) = wds .gap k (l.drop k) := by
  by_cases hk : k < l.length
  · have h10 := h hk
    have hsp : spI (l[k].toNat : Int) = true := by
      simp only [beq_iff_eq] at h10
      simp [spI, h10]
    rw [List.drop_eq_getElem_cons hk, wds, wds, if_pos h10, if_pos hsp]
  · rw [List.drop_of_length_le (by omega)]; rfl
/-- A note from its sign on. -/
theorem wds_note (l : List UInt8) (i k : Nat) (h : i < l.length) (hs : spI (l[i].toNat : Int) = false) (h5 : ((l[i].toNat : Int) == 59) = true) (hk : i < k) (hkl : k ≤ l.length)
    (hno : ∀ j (hj : j < l.length), i < j → j < k → ((l[j].toNat : Int) == 10) = false) (he : ∀ hk : k < l.length, ((l[k].toNat : Int) == 10) = true) :
    wds .gap i (l.drop i) = wds .gap k (l.drop k) := by
  have e : wds .gap i (l.drop i) = wds .note (i + 1) (l.drop (i + 1)) := by
    rw [List.drop_eq_getElem_cons h, wds, if_neg (by simp [hs]), if_pos h5]
  obtain ⟨n, rfl⟩ : ∃ n, k = i + 1 + n := ⟨k - (i + 1), by omega⟩
  rw [e, wds_note_run l (i + 1) n hkl (fun j hj h1 h2 => hno j hj (by omega) h2), wds_note_end l _ he]

/-- Within a word: up to what ends it. -/
theorem wds_word_run (l : List UInt8) (st i : Nat) : ∀ n, i + n ≤ l.length → (∀ j (hj : j < l.length), i ≤ j → j < i + n → enI (l[j].toNat : Int) = false) → ∀ acc, wds (.word st acc) i (l.drop i) = wds (.word st (acc ++ (l.drop i).take n)) (i + n) (l.drop (i + n)) := by
  intro n
  induction n with
  | zero => intro _ _ acc; simp
  | succ n ih =>
    intro hn hj acc
    rw [ih (by omega) (fun j h1 h2 h3 => hj j h1 h2 (by omega))]
    have hlt : i + n < l.length := by omega
    have hen := hj (i + n) hlt (by omega) (by omega)
    simp only [enI, Bool.or_eq_false_iff] at hen
    obtain ⟨h1, h2, h3⟩ := hen
    rw [List.drop_eq_getElem_cons hlt, wds, if_neg (by simp [h2]), if_neg (by simp [h3]), if_neg (by simp [h1])]
    have ht : (l.drop i).take (n + 1) = (l.drop i).take n ++ [l[i + n]] := by
      rw [List.take_succ_eq_append_getElem (by rw [List.length_drop]; omega)]
      simp
    rw [ht, List.append_assoc]
    rfl
theorem wds_word_end (l : List UInt8) (st k : Nat) (acc : List UInt8) (h : ∀ hk : k < l.length, enI (l[k].toNat : Int) = true) : wds (.word st acc) k (l.drop k) = (⟨acc.toArray⟩, st) :: wds .gap k (l.drop k) := by
  by_cases hk : k < l.length
  · have he := h hk
    rw [List.drop_eq_getElem_cons hk, wds, wds]
    by_cases h1 : spI (l[k].toNat : Int) = true
    · rw [if_pos h1, if_pos h1]
    · rw [if_neg h1, if_neg h1]
      by_cases h2 : ((l[k].toNat : Int) == 59) = true
      · rw [if_pos h2, if_pos h2]
      · rw [if_neg h2, if_neg h2]
        have h3 : brI (l[k].toNat : Int) = true := by
          simp only [Bool.not_eq_true] at h1 h2
          simpa [enI, h1, h2] using he
        rw [if_pos h3, if_pos h3]
  · rw [List.drop_of_length_le (by omega)]; rfl
/-- A word from its first byte on. -/
theorem wds_word (l : List UInt8) (i k : Nat) (h : i < l.length) (hk : i < k) (hkl : k ≤ l.length) (hno : ∀ j (hj : j < l.length), i ≤ j → j < k → enI (l[j].toNat : Int) = false)
    (he : ∀ hk : k < l.length, enI (l[k].toNat : Int) = true) : wds .gap i (l.drop i) = (⟨((l.drop i).take (k - i)).toArray⟩, i) :: wds .gap k (l.drop k) := by
  have h0 := hno i h (by omega) hk
  simp only [enI, Bool.or_eq_false_iff] at h0
  obtain ⟨h1, h2, h3⟩ := h0
  have e : wds .gap i (l.drop i) = wds (.word i [l[i]]) (i + 1) (l.drop (i + 1)) := by
    rw [List.drop_eq_getElem_cons h, wds, if_neg (by simp [h2]), if_neg (by simp [h3]), if_neg (by simp [h1])]
  obtain ⟨n, rfl⟩ : ∃ n, k = i + 1 + n := ⟨k - (i + 1), by omega⟩
  rw [e, wds_word_run l i (i + 1) n hkl (fun j hj h1 h2 => hno j hj (by omega) h2), wds_word_end l i _ _ he]
  have ht : (l.drop i).take (i + 1 + n - i) = [l[i]] ++ (l.drop (i + 1)).take n := by
    rw [show i + 1 + n - i = n + 1 by omega, List.drop_eq_getElem_cons h, List.take_succ_cons]; rfl
  rw [ht]

/-! ### How many -/
theorem wds_len : ∀ (l : List UInt8) (f : Ph) (p : Nat), (wds f p l).length ≤ l.length + (match f with | .word _ _ => 1 | _ => 0) := by
  intro l
  induction l with
  | nil => intro f p; cases f <;> simp [wds]
  | cons c r ih =>
    intro f p
    have hg := ih .gap (p + 1)
    have hn := ih .note (p + 1)
    cases f with
    | gap =>
      have hw := ih (.word p [c]) (p + 1)
      simp only [wds]
      simp only at hg hn hw
      split
      · simp; omega
      · split
        · simp; omega
        · split
          · simp; omega
          · simp; omega
    | note =>
      simp only [wds]
      simp only at hg hn
      split <;> (simp; omega)
    | word st acc =>
      have hw := ih (.word st (acc ++ [c])) (p + 1)
      simp only [wds]
      simp only at hg hn hw
      split
      · simp; omega
      · split
        · simp; omega
        · split
          · simp; omega
          · simp; omega
theorem words_len (l : List UInt8) : (words l).length ≤ l.length := wds_len l .gap 0

/-! ### Further on -/
def Ph.on (d : Nat) : Ph → Ph
  | .gap => .gap
  | .note => .note
  | .word st acc => .word (st + d) acc
def on (d : Nat) (l : List (ByteArray × Nat)) : List (ByteArray × Nat) := l.map fun x => (x.1, x.2 + d)
theorem on_len (d : Nat) (l : List (ByteArray × Nat)) : (on d l).length = l.length := List.length_map _
theorem wds_on (d : Nat) : ∀ (l : List UInt8) (f : Ph) (p : Nat), wds (f.on d) (p + d) l = on d (wds f p l) := by
  intro l
  induction l with
  | nil => intro f p; cases f <;> rfl
  | cons c r ih =>
    intro f p
    have hg : wds .gap (p + 1 + d) r = on d (wds .gap (p + 1) r) := ih .gap (p + 1)
    have hn : wds .note (p + 1 + d) r = on d (wds .note (p + 1) r) := ih .note (p + 1)
    have e : p + d + 1 = p + 1 + d := by omega
    cases f with
    | gap =>
      have hw : wds (.word (p + d) [c]) (p + 1 + d) r = on d (wds (.word p [c]) (p + 1) r) := ih (.word p [c]) (p + 1)
      simp only [Ph.on, wds, e, hg, hn, hw]
      split
      · rfl
      · split
        · rfl
        · split <;> rfl
    | note =>
      simp only [Ph.on, wds, e, hg, hn]
      split <;> rfl
    | word st acc =>
      have hw : wds (.word (st + d) (acc ++ [c])) (p + 1 + d) r = on d (wds (.word st (acc ++ [c])) (p + 1) r) := ih (.word st (acc ++ [c])) (p + 1)
      simp only [Ph.on, wds, e, hg, hn, hw]
      split
      · rfl
      · split
        · rfl
        · split <;> rfl
/-- A text, a line's end, another text. -/
theorem wds_join (t : List UInt8) : ∀ (s : List UInt8) (f : Ph) (p : Nat), wds f p (s ++ 10 :: t) = wds f p s ++ wds .gap (p + s.length + 1) t := by
  intro s
  induction s with
  | nil =>
    intro f p
    cases f with
    | gap => rfl
    | note => rfl
    | word st acc => rfl
  | cons c r ih =>
    intro f p
    have hg := ih .gap (p + 1)
    have hn := ih .note (p + 1)
    have e : p + (c :: r).length + 1 = p + 1 + r.length + 1 := by simp; omega
    rw [e, List.cons_append]
    cases f with
    | gap =>
      have hw := ih (.word p [c]) (p + 1)
      simp only [wds, hg, hn, hw]
      split
      · rfl
      · split
        · rfl
        · split <;> rfl
    | note =>
      simp only [wds, hg, hn]
      split <;> rfl
    | word st acc =>
      have hw := ih (.word st (acc ++ [c])) (p + 1)
      simp only [wds, hg, hn, hw]
      split
      · rfl
      · split
        · rfl
        · split <;> rfl
theorem words_join (s t : List UInt8) : words (s ++ 10 :: t) = words s ++ on (s.length + 1) (words t) := by
  have h := wds_on (s.length + 1) t .gap 0
  simp only [Ph.on, Nat.zero_add] at h
  have h2 := wds_join t s .gap 0
  simp only [Nat.zero_add] at h2
  unfold words
  rw [h2, ← h]
/-- A text, a line's end, a note that takes the next text's first line. -/
theorem words_noted (s t : List UInt8) (k : Nat) (hk : k ≤ t.length) (hno : ∀ j (hj : j < t.length), j < k → ((t[j].toNat : Int) == 10) = false) (he : ∀ hk : k < t.length, ((t[k].toNat : Int) == 10) = true) :
    (words (s ++ 10 :: 59 :: t)).length = (words s).length + (words (t.drop k)).length := by
  rw [words_join, List.length_append, on_len]
  congr 1
  have h := wds_note (59 :: t) 0 (k + 1) (by simp) (by simp only [List.getElem_cons_zero]; decide) (by simp only [List.getElem_cons_zero]; decide) (by omega) (by simp; omega)
    (fun j hj h1 h2 => by
      obtain ⟨j, rfl⟩ : ∃ j', j = j' + 1 := ⟨j - 1, by omega⟩
      simpa using hno j (by simpa using hj) (by omega))
    (fun hk => by simpa using he (by simpa using hk))
  simp only [List.drop_zero, List.drop_succ_cons] at h
  unfold words
  rw [h]
  have h2 := wds_on (k + 1) (t.drop k) .gap 0
  simp only [Ph.on, Nat.zero_add] at h2
  rw [h2, on_len]
theorem words_spaces (n : Nat) : words (List.replicate n 32) = [] := by
  have h : ∀ p, wds .gap p (List.replicate n 32) = [] := by
    induction n with
    | zero => intro p; rfl
    | succ n ih => intro p; rw [List.replicate_succ, wds, if_pos (by decide)]; exact ih _
  exact h 0
end Go.Proofs.YtlblhlnpmdfblaaDoor
