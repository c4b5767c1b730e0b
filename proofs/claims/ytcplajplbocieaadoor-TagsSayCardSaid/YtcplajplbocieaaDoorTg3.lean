/- Tags, as plain data: their order is one. Conditions: none. -/
import Derived.Test.YtcplajplbocieaaDoorTg1
namespace Go.Proofs.YtcplajplbocieaaDoor
open Go.RowKit Go.Sort

/-- A comparison: 0 of what is the same, else less than 0 one way. -/
structure Cmp {α : Type} (c : α → α → Int) : Prop where
  refl : ∀ x, c x x = 0
  same : ∀ x y, c x y = 0 → x = y
  anti : ∀ x y, c x y < 0 → 0 < c y x
  anti' : ∀ x y, 0 < c x y → c y x < 0
  trans : ∀ x y z, c x y < 0 → c y z < 0 → c x z < 0
theorem cmp_int : Cmp Lib.compareInt where
  refl x := by unfold Lib.compareInt; simp
  same x y h := by unfold Lib.compareInt at h; split at h; · omega
                   split at h <;> omega
  anti x y h := by unfold Lib.compareInt at *; split at h <;> split <;> (try split at h) <;> (try split) <;> omega
  anti' x y h := by unfold Lib.compareInt at *; split at h <;> split <;> (try split at h) <;> (try split) <;> omega
  trans x y z h g := by unfold Lib.compareInt at *; split at h <;> split at g <;> split <;> (try split at h) <;> (try split at g) <;> (try split) <;> omega
theorem cb_nc (b : UInt8) (m : List UInt8) : Lib.compareBytes [] (b :: m) = -1 := rfl
theorem cb_cn (b : UInt8) (m : List UInt8) : Lib.compareBytes (b :: m) [] = 1 := rfl
theorem u8_lt (a b : UInt8) : (a < b) ↔ a.toNat < b.toNat := UInt8.lt_iff_toNat_lt
theorem u8_eq (a b : UInt8) (h : a.toNat = b.toNat) : a = b := UInt8.toNat_inj.1 h
theorem cb_cons (a b : UInt8) (l m : List UInt8) : Lib.compareBytes (a :: l) (b :: m) = if a.toNat < b.toNat then -1 else if b.toNat < a.toNat then 1 else Lib.compareBytes l m := by
  rw [Lib.compareBytes]
  simp only [u8_lt]
theorem cmp_bytes : Cmp Lib.compareBytes where
  refl x := by
    induction x with
    | nil => rfl
    | cons a l ih => rw [cb_cons, if_neg (by omega), if_neg (by omega)]; exact ih
  same x := by
    induction x with
    | nil => intro y h; cases y with
      | nil => rfl
      | cons b m => rw [cb_nc] at h; omega
    | cons a l ih =>
      intro y h
      cases y with
      | nil => first | (rw [cb_cn] at h; omega) | exact absurd h (by decide)
      | cons b m =>
        rw [cb_cons] at h
        split at h; · exact absurd h (by decide)
        split at h; · exact absurd h (by decide)
        rw [u8_eq a b (by omega), ih m h]
  anti x := by
    induction x with
    | nil => intro y h; cases y with
      | nil => first | (rw [cb_cn] at h; omega) | exact absurd h (by decide)
      | cons b m => exact (by decide : (0 : Int) < 1)
    | cons a l ih =>
      intro y h
      cases y with
      | nil => first | (rw [cb_cn] at h; omega) | exact absurd h (by decide)
      | cons b m =>
        rw [cb_cons] at h ⊢
        split at h
        · rw [if_neg (by omega), if_pos (by omega)]; decide
        split at h; · exact absurd h (by decide)
        rw [if_neg (by omega), if_neg (by omega)]
        exact ih m h
  anti' x := by
    induction x with
    | nil => intro y h; cases y with
      | nil => first | (rw [cb_cn] at h; omega) | exact absurd h (by decide)
      | cons b m => rw [cb_nc] at h; omega
    | cons a l ih =>
      intro y h
      cases y with
      | nil => exact (by decide : (-1 : Int) < 0)
      | cons b m =>
        rw [cb_cons] at h ⊢
        split at h; · exact absurd h (by decide)
        split at h
        · rw [if_pos (by omega)]; decide
        rw [if_neg (by omega), if_neg (by omega)]
        exact ih m h
  trans x := by
    induction x with
    | nil => intro y z h g; cases y with
      | nil => first | (rw [cb_cn] at h; omega) | exact absurd h (by decide)
      | cons b m => cases z with
        | nil => first | (rw [cb_cn] at g; omega) | exact absurd g (by decide)
        | cons c n => exact (by decide : (-1 : Int) < 0)
    | cons a l ih =>
      intro y z h g
      cases y with
      | nil => first | (rw [cb_cn] at h; omega) | exact absurd h (by decide)
      | cons b m => cases z with
        | nil => first | (rw [cb_cn] at g; omega) | exact absurd g (by decide)
        | cons c n =>
          rw [cb_cons] at h g ⊢
          by_cases h1 : a.toNat < c.toNat
          · rw [if_pos h1]; decide
          rw [if_neg h1]
          split at h
          · split at g
            · omega
            · split at g
              · exact absurd g (by decide)
              · omega
          split at h; · exact absurd h (by decide)
          split at g
          · omega
          split at g; · exact absurd g (by decide)
          rw [if_neg (by omega)]
          exact ih m n h g
/-- One comparison behind another. -/
theorem Cmp.lex {α β γ : Type} {c : β → β → Int} {d : γ → γ → Int} (hc : Cmp c) (hd : Cmp d) (f : α → β) (g : α → γ) (hj : ∀ x y, f x = f y → g x = g y → x = y) : Cmp fun x y => orI (c (f x) (f y)) (d (g x) (g y)) where
  refl x := by show orI _ _ = 0; rw [hc.refl, hd.refl]; rfl
  same x y h := by
    unfold orI at h
    split at h
    · rename_i h1; exact hj x y (hc.same _ _ h1) (hd.same _ _ h)
    · rename_i h1; exact absurd h h1
  anti x y h := by
    unfold orI at *
    split at h
    · rename_i h1
      rw [if_pos (by rw [hc.same _ _ h1]; exact hc.refl _)]
      exact hd.anti _ _ h
    · have := hc.anti _ _ h
      rw [if_neg (by omega)]; exact this
  anti' x y h := by
    unfold orI at *
    split at h
    · rename_i h1
      rw [if_pos (by rw [hc.same _ _ h1]; exact hc.refl _)]
      exact hd.anti' _ _ h
    · have := hc.anti' _ _ h
      rw [if_neg (by omega)]; exact this
  trans x y z h k := by
    unfold orI at *
    split at h
    · rename_i h1
      have e1 := hc.same _ _ h1
      rw [e1]
      split at k
      · rename_i k1; rw [if_pos k1]; exact hd.trans _ _ _ h k
      · rename_i k1; rw [if_neg k1]; exact k
    · split at k
      · rename_i k1
        have e2 := hc.same _ _ k1
        rw [← e2, if_neg (by omega)]; exact h
      · have := hc.trans _ _ _ h k
        rw [if_neg (by omega)]; exact this
theorem ba_inj {a b : ByteArray} (h : a.data.toList = b.data.toList) : a = b := ByteArray.ext (Array.toList_inj.1 h)
theorem cmp_tag : Cmp cmpT :=
  cmp_int.lex (cmp_bytes.lex cmp_int (fun p : ByteArray × Int => p.1.data.toList) (fun p => p.2) (fun x y h g => Prod.ext (ba_inj h) g)) (fun x : Tg => x.k) (fun x => (x.s, x.n))
    (fun x y h g => by obtain ⟨a, b, c⟩ := x; obtain ⟨d, e, f⟩ := y; simp only [Prod.mk.injEq] at h g; rw [h, g.1, g.2])
def ltT (x y : Tg) : Bool := ltOf cmpT x y
theorem ltT_iff (x y : Tg) : ltT x y = true ↔ cmpT x y < 0 := by unfold ltT ltOf; simp
theorem swo_tag : SWO (ltOf cmpT) where
  irrefl x := by unfold ltOf; rw [cmp_tag.refl]; rfl
  trans x y z h g := by unfold ltOf at *; simp only [decide_eq_true_eq] at *; exact cmp_tag.trans _ _ _ h g
  ntrans x y z h g := by
    unfold ltOf at *
    simp only [decide_eq_false_iff_not, Int.not_lt] at *
    rcases Int.lt_or_le 0 (cmpT x y) with h1 | h1
    · rcases Int.lt_or_le 0 (cmpT y z) with h2 | h2
      · have := cmp_tag.trans _ _ _ (cmp_tag.anti' _ _ h2) (cmp_tag.anti' _ _ h1)
        have := cmp_tag.anti _ _ this; omega
      · rw [← cmp_tag.same y z (by omega)]; exact h
    · rw [cmp_tag.same x y (by omega)]; exact g
theorem tot_tag (x y : Tg) (h : ltOf cmpT x y = false) (g : ltOf cmpT y x = false) : x = y := by
  unfold ltOf at *
  simp only [decide_eq_false_iff_not, Int.not_lt] at *
  refine cmp_tag.same _ _ ?_
  rcases Int.lt_or_le 0 (cmpT x y) with h1 | h1
  · have := cmp_tag.anti' _ _ h1; omega
  · omega
theorem ba_inj2 {a b : ByteArray} (h : a.toList = b.toList) : a = b := by rw [ByteArray.toList_eq, ByteArray.toList_eq] at h; exact ba_inj h
def eqT (x y : Tg) : Bool := x.k == y.k && x.s.toList == y.s.toList && x.n == y.n
theorem eqT_iff (x y : Tg) : eqT x y = true ↔ x = y := by
  unfold eqT
  constructor
  · intro h
    simp only [Bool.and_eq_true, beq_iff_eq] at h
    obtain ⟨a, b, c⟩ := x; obtain ⟨d, e, f⟩ := y
    simp only at h
    rw [h.1.1, ba_inj2 h.1.2, h.2]
  · rintro rfl
    simp
theorem eqT_false (x y : Tg) (h : x ≠ y) : eqT x y = false := by
  cases e : eqT x y
  · rfl
  · exact absurd ((eqT_iff x y).1 e) h
end Go.Proofs.YtcplajplbocieaaDoor
