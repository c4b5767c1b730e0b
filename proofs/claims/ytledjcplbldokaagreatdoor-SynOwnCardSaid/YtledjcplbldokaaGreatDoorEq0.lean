/- When two programs are the same, as plain data. No conditions. -/
import Derived.Test.YtledjcplbldokaaGreatDoorFp
namespace Go.Proofs.YtledjcplbldokaaGreatDoor
open Go.ChangeShapes Go.WideShapes Go.ChangeAt Go.RowKit

def txEq : List ByteArray → List ByteArray → Bool
  | [], [] => true
  | x :: xs, y :: ys => x.toList == y.toList && txEq xs ys
  | _, _ => false
def Ty.eq : Ty → Ty → Bool
  | .nil, .nil => true
  | .node n a r, .node n' a' r' => (n.toList == n'.toList && a.eq a') && r.eq r'
  | _, _ => false
def Ex.eq : Ex → Ex → Bool
  | .nil, .nil => true
  | .expr op nm n names l alts r, .expr op' nm' n' names' l' alts' r' => (op == op' && (nm.toList == nm'.toList && (n == n' && (txEq names names' && (l.eq l' && alts.eq alts'))))) && r.eq r'
  | .alt take nm n names e r, .alt take' nm' n' names' e' r' => (take == take' && (nm.toList == nm'.toList && (n == n' && (txEq names names' && e.eq e')))) && r.eq r'
  | _, _ => false
def coEq : List Co → List Co → Bool
  | [], [] => true
  | x :: xs, y :: ys => (x.1.toList == y.1.toList && x.2.eq y.2) && coEq xs ys
  | _, _ => false
def daEq : List Da → List Da → Bool
  | [], [] => true
  | x :: xs, y :: ys => (x.1.toList == y.1.toList && (txEq x.2.1 y.2.1 && coEq x.2.2 y.2.2)) && daEq xs ys
  | _, _ => false
def deEq : List De → List De → Bool
  | [], [] => true
  | x :: xs, y :: ys => (x.1.toList == y.1.toList && (txEq x.2.1 y.2.1 && x.2.2.eq y.2.2)) && deEq xs ys
  | _, _ => false
def progEq (ds : List Da) (fs : List De) (ds' : List Da) (fs' : List De) : Bool := daEq ds ds' && deEq fs fs'

theorem txEq_refl : ∀ l, txEq l l = true
  | [] => rfl
  | x :: xs => by simp [txEq, txEq_refl xs]
theorem Ty.eq_refl : ∀ f : Ty, f.eq f = true
  | .nil => rfl
  | .node _ a r => by simp [Ty.eq, a.eq_refl, r.eq_refl]
theorem Ex.eq_refl : ∀ f : Ex, f.eq f = true
  | .nil => rfl
  | .expr _ _ _ names l alts r => by simp [Ex.eq, txEq_refl names, l.eq_refl, alts.eq_refl, r.eq_refl]
  | .alt _ _ _ names e r => by simp [Ex.eq, txEq_refl names, e.eq_refl, r.eq_refl]
theorem coEq_refl : ∀ l, coEq l l = true
  | [] => rfl
  | x :: xs => by simp [coEq, coEq_refl xs, x.2.eq_refl]
theorem daEq_refl : ∀ l, daEq l l = true
  | [] => rfl
  | x :: xs => by simp [daEq, daEq_refl xs, txEq_refl, coEq_refl]
theorem deEq_refl : ∀ l, deEq l l = true
  | [] => rfl
  | x :: xs => by simp [deEq, deEq_refl xs, txEq_refl, x.2.2.eq_refl]
theorem txEq_len : ∀ {l l' : List ByteArray}, txEq l l' = true → l.length = l'.length
  | [], [], _ => rfl
  | _ :: xs, _ :: ys, h => by simp only [txEq, Bool.and_eq_true] at h; simp [txEq_len h.2]
  | [], _ :: _, h => by simp [txEq] at h
  | _ :: _, [], h => by simp [txEq] at h
theorem Ty.eq_len : ∀ {f g : Ty}, f.eq g = true → f.len = g.len
  | .nil, .nil, _ => rfl
  | .node _ _ r, .node _ _ r', h => by simp only [Ty.eq, Bool.and_eq_true] at h; simp [Ty.len, Ty.eq_len h.2]
  | .nil, .node _ _ _, h => by simp [Ty.eq] at h
  | .node _ _ _, .nil, h => by simp [Ty.eq] at h
theorem Ex.eq_len : ∀ {f g : Ex}, f.eq g = true → f.len = g.len
  | .nil, .nil, _ => rfl
  | .expr _ _ _ _ _ _ r, .expr _ _ _ _ _ _ r', h => by simp only [Ex.eq, Bool.and_eq_true] at h; simp [Ex.len, Ex.eq_len h.2]
  | .alt _ _ _ _ _ r, .alt _ _ _ _ _ r', h => by simp only [Ex.eq, Bool.and_eq_true] at h; simp [Ex.len, Ex.eq_len h.2]
  | .nil, .expr .., h => by simp [Ex.eq] at h
  | .nil, .alt .., h => by simp [Ex.eq] at h
  | .expr .., .nil, h => by simp [Ex.eq] at h
  | .alt .., .nil, h => by simp [Ex.eq] at h
  | .expr .., .alt .., h => by simp [Ex.eq] at h
  | .alt .., .expr .., h => by simp [Ex.eq] at h
theorem coEq_len : ∀ {l l' : List Co}, coEq l l' = true → l.length = l'.length
  | [], [], _ => rfl
  | _ :: xs, _ :: ys, h => by simp only [coEq, Bool.and_eq_true] at h; simp [coEq_len h.2]
  | [], _ :: _, h => by simp [coEq] at h
  | _ :: _, [], h => by simp [coEq] at h
theorem daEq_len : ∀ {l l' : List Da}, daEq l l' = true → l.length = l'.length
  | [], [], _ => rfl
  | _ :: xs, _ :: ys, h => by simp only [daEq, Bool.and_eq_true] at h; simp [daEq_len h.2]
  | [], _ :: _, h => by simp [daEq] at h
  | _ :: _, [], h => by simp [daEq] at h
theorem deEq_len : ∀ {l l' : List De}, deEq l l' = true → l.length = l'.length
  | [], [], _ => rfl
  | _ :: xs, _ :: ys, h => by simp only [deEq, Bool.and_eq_true] at h; simp [deEq_len h.2]
  | [], _ :: _, h => by simp [deEq] at h
  | _ :: _, [], h => by simp [deEq] at h
theorem drop_two {α : Type} {l : List α} {i : Nat} (h : i < l.length) : l.drop i = l[i] :: l.drop (i + 1) := List.drop_eq_getElem_cons h
end Go.Proofs.YtledjcplbldokaaGreatDoor
