/- Lists of constructors, datas, definitions that a call has made. No conditions. -/
import Derived.Test.YtledjcplbldokaaGreatDoorCl0
namespace Go.Proofs.YtledjcplbldokaaGreatDoor
open Go.ChangeShapes Go.WideShapes Go.ChangeAt Go.RowKit

def CoO (w : World) : List Co → List Value → List Nat → Prop
  | [], xs, F => xs = [] ∧ F = []
  | c :: r, xs, F => ∃ v xs' F1 F2, xs = [.string c.1, v] ++ xs' ∧ F = F1 ++ F2 ∧ c.1.size ≤ reach ∧ RowO 50 2 w v c.2.len F1 (fun xs F => TyO w c.2 xs F) ∧ CoO w r xs' F2
def DaO (w : World) : List Da → List Value → List Nat → Prop
  | [], xs, F => xs = [] ∧ F = []
  | d :: r, xs, F => ∃ v1 v2 xs' F1 F2 F3, xs = [.string d.1, v1, v2] ++ xs' ∧ F = F1 ++ F2 ++ F3 ∧ d.1.size ≤ reach ∧ RowO 9 1 w v1 d.2.1.length F1 (fun xs F => TxO d.2.1 xs F) ∧ RowO 48 2 w v2 d.2.2.length F2 (fun xs F => CoO w d.2.2 xs F) ∧ DaO w r xs' F3
def DeO (w : World) : List De → List Value → List Nat → Prop
  | [], xs, F => xs = [] ∧ F = []
  | d :: r, xs, F => ∃ v1 ys xs' F1 F2 F3, xs = ([.string d.1, v1] ++ ys) ++ xs' ∧ ys.length = 6 ∧ F = F1 ++ F2 ++ F3 ∧ d.1.size ≤ reach ∧ d.2.2.wf true ∧ d.2.2.len = 1 ∧ RowO 9 1 w v1 d.2.1.length F1 (fun xs F => TxO d.2.1 xs F) ∧ ExO w d.2.2 ys F2 ∧ DeO w r xs' F3
theorem CoO.app {w : World} : ∀ {f g : List Co} {xs ys : List Value} {F G : List Nat}, CoO w f xs F → CoO w g ys G → CoO w (f ++ g) (xs ++ ys) (F ++ G)
  | [], _, _, _, _, _, ⟨h1, h2⟩, h => by subst h1 h2; exact h
  | _ :: _, _, _, _, _, _, ⟨v, xs', F1, F2, h1, h2, h3, h4, h5⟩, h => by
    subst h1 h2
    exact ⟨v, _, F1, _, by simp, by simp [List.append_assoc], h3, h4, CoO.app h5 h⟩
theorem DaO.app {w : World} : ∀ {f g : List Da} {xs ys : List Value} {F G : List Nat}, DaO w f xs F → DaO w g ys G → DaO w (f ++ g) (xs ++ ys) (F ++ G)
  | [], _, _, _, _, _, ⟨h1, h2⟩, h => by subst h1 h2; exact h
  | _ :: _, _, _, _, _, _, ⟨v, v2, xs', F1, F2, F3, h1, h2, h3, h4, h6, h5⟩, h => by
    subst h1 h2
    exact ⟨v, v2, _, F1, F2, _, by simp, by simp [List.append_assoc], h3, h4, h6, DaO.app h5 h⟩
theorem DeO.app {w : World} : ∀ {f g : List De} {xs ys : List Value} {F G : List Nat}, DeO w f xs F → DeO w g ys G → DeO w (f ++ g) (xs ++ ys) (F ++ G)
  | [], _, _, _, _, _, ⟨h1, h2⟩, h => by subst h1 h2; exact h
  | _ :: _, _, _, _, _, _, ⟨v, zs, xs', F1, F2, F3, h1, h0, h2, k1, k2, k3, h4, h6, h5⟩, h => by
    subst h1 h2
    exact ⟨v, zs, _, F1, F2, _, by simp [List.append_assoc], h0, by simp [List.append_assoc], k1, k2, k3, h4, h6, DeO.app h5 h⟩
theorem CoO.keep {w w' : World} : ∀ {f : List Co} {xs : List Value} {F : List Nat}, CoO w f xs F → KeepF w w' F → CoO w' f xs F
  | [], _, _, h, _ => h
  | _ :: _, _, _, ⟨v, xs', F1, F2, h1, h2, h3, h4, h5⟩, hk => by
    subst h2
    exact ⟨v, xs', F1, F2, h1, rfl, h3, h4.keep hk.left fun _ _ hs hp => TyO.keep hp (hk.left.sub hs), CoO.keep h5 hk.right⟩
theorem DaO.keep {w w' : World} : ∀ {f : List Da} {xs : List Value} {F : List Nat}, DaO w f xs F → KeepF w w' F → DaO w' f xs F
  | [], _, _, h, _ => h
  | _ :: _, _, _, ⟨v, v2, xs', F1, F2, F3, h1, h2, h3, h4, h6, h5⟩, hk => by
    subst h2
    exact ⟨v, v2, xs', F1, F2, F3, h1, rfl, h3, h4.keep hk.left.left fun _ _ _ hp => hp, h6.keep hk.left.right fun _ _ hs hp => CoO.keep hp (hk.left.right.sub hs), DaO.keep h5 hk.right⟩
theorem DeO.keep {w w' : World} : ∀ {f : List De} {xs : List Value} {F : List Nat}, DeO w f xs F → KeepF w w' F → DeO w' f xs F
  | [], _, _, h, _ => h
  | _ :: _, _, _, ⟨v, zs, xs', F1, F2, F3, h1, h0, h2, k1, k2, k3, h4, h6, h5⟩, hk => by
    subst h2
    exact ⟨v, zs, xs', F1, F2, F3, h1, h0, rfl, k1, k2, k3, h4.keep hk.left.left fun _ _ _ hp => hp, ExO.keep h6 hk.left.right, DeO.keep h5 hk.right⟩
theorem CoO.in {w : World} : ∀ {f : List Co} {xs : List Value} {F : List Nat} {b o : Nat}, CoO w f xs F → (∀ j, j < xs.length → w.cell? ⟨b, o + j, none⟩ = xs[j]?) → CoIn w f b o
  | [], _, _, _, _, _, _ => fun i h => absurd h (Nat.not_lt_zero _)
  | _ :: r, _, _, b, o, ⟨v, xs', F1, F2, h1, h2, h3, h4, h5⟩, hc => by
    subst h1 h2
    have hr := CoO.in (b := b) (o := o + 2) h5 fun j hj => by
      have := hc (2 + j) (by simp; omega)
      rw [show o + (2 + j) = o + 2 + j by omega] at this
      rw [this, List.getElem?_append_right (by simp)]
      simp
    intro i hi
    cases i with
    | zero =>
      have e0 := hc 0 (by simp)
      have e1 := hc 1 (by simp)
      exact ⟨by simpa using e0, h3, v, by simpa using e1, h4.in fun g xs F' hp hcc => TyO.in hp (fun j hj => by simpa using hcc j hj)⟩
    | succ i =>
      have := hr i (by simpa using hi)
      rw [show o + 2 + i * 2 = o + (i + 1) * 2 by omega] at this
      exact this
theorem DaO.in {w : World} : ∀ {f : List Da} {xs : List Value} {F : List Nat} {b o : Nat}, DaO w f xs F → (∀ j, j < xs.length → w.cell? ⟨b, o + j, none⟩ = xs[j]?) → DaIn w f b o
  | [], _, _, _, _, _, _ => fun i h => absurd h (Nat.not_lt_zero _)
  | _ :: r, _, _, b, o, ⟨v, v2, xs', F1, F2, F3, h1, h2, h3, h4, h6, h5⟩, hc => by
    subst h1 h2
    have hr := DaO.in (b := b) (o := o + 3) h5 fun j hj => by
      have := hc (3 + j) (by simp; omega)
      rw [show o + (3 + j) = o + 3 + j by omega] at this
      rw [this, List.getElem?_append_right (by simp)]
      simp
    intro i hi
    cases i with
    | zero =>
      have e0 := hc 0 (by simp)
      have e1 := hc 1 (by simp)
      have e2 := hc 2 (by simp)
      exact ⟨by simpa using e0, h3, ⟨v, by simpa using e1, h4.in fun g xs F' hp hcc => hp.in hcc⟩, v2, by simpa using e2, h6.in fun g xs F' hp hcc => CoO.in hp hcc⟩
    | succ i =>
      have := hr i (by simpa using hi)
      rw [show o + 3 + i * 3 = o + (i + 1) * 3 by omega] at this
      exact this
theorem DeO.in {w : World} : ∀ {f : List De} {xs : List Value} {F : List Nat} {b o : Nat}, DeO w f xs F → (∀ j, j < xs.length → w.cell? ⟨b, o + j, none⟩ = xs[j]?) → DeIn w f b o
  | [], _, _, _, _, _, _ => fun i h => absurd h (Nat.not_lt_zero _)
  | d :: r, _, _, b, o, ⟨v, zs, xs', F1, F2, F3, h1, h0, h2, k1, k2, k3, h4, h6, h5⟩, hc => by
    subst h1 h2
    have hr := DeO.in (b := b) (o := o + 8) h5 fun j hj => by
      have := hc (8 + j) (by simp; omega)
      rw [show o + (8 + j) = o + 8 + j by omega] at this
      rw [this, List.getElem?_append_right (by simp; omega)]
      simp [h0]
    intro i hi
    cases i with
    | zero =>
      have e0 := hc 0 (by simp)
      have e1 := hc 1 (by simp)
      refine ⟨by simpa using e0, k1, ⟨v, by simpa using e1, h4.in fun g xs F' hp hcc => hp.in hcc⟩, k2, k3, ?_⟩
      refine ExO.in h6 true k2 fun j hj => ?_
      have := hc (2 + j) (by simp; omega)
      simp only [if_true]
      rw [show o + (2 + j) = o + 0 * 8 + 2 + 0 * 6 + j by omega] at this
      rw [this, List.getElem?_append_left (by simp; omega), List.getElem?_append_right (by simp)]
      simp
    | succ i =>
      have := hr i (by simpa using hi)
      rw [show o + 8 + i * 8 = o + (i + 1) * 8 by omega] at this
      exact this
end Go.Proofs.YtledjcplbldokaaGreatDoor
