/- Programs that are small: what gristmillmake counts of them, as plain data. No conditions. -/
import Derived.Test.YtledjcplbldokaaGreatDoorProgIn
namespace Go.Proofs.YtledjcplbldokaaGreatDoor
open Go.ChangeShapes Go.WideShapes Go.ChangeAt Go.RowKit

/-- How many parts, how many levels, names of at most 60 bytes: of types, of expressions (alternatives' own names are not asked). -/
def Ty.cost : Ty → Nat
  | .nil => 0
  | .node _ args r => 1 + args.cost + r.cost
def Ty.tall : Ty → Nat
  | .nil => 0
  | .node _ args r => max (1 + args.tall) r.tall
def Ty.brief : Ty → Prop
  | .nil => True
  | .node nm args r => nm.size ≤ 60 ∧ args.brief ∧ r.brief
def Ex.cost : Ex → Nat
  | .nil => 0
  | .expr _ _ _ names l alts r => 1 + names.length + l.cost + alts.cost + r.cost
  | .alt _ _ _ names e r => 1 + names.length + e.cost + r.cost
def Ex.tall : Ex → Nat
  | .nil => 0
  | .expr _ _ _ _ l alts r => max (1 + max l.tall alts.tall) r.tall
  | .alt _ _ _ _ e r => max e.tall r.tall
def Ex.brief : Ex → Prop
  | .nil => True
  | .expr _ nm _ names l alts r => nm.size ≤ 60 ∧ (∀ i (h : i < names.length), names[i].size ≤ 60) ∧ l.brief ∧ alts.brief ∧ r.brief
  | .alt _ _ _ _ e r => e.brief ∧ r.brief
def txBrief (l : List ByteArray) : Prop := ∀ i (h : i < l.length), l[i].size ≤ 60
def coCost : List Co → Nat
  | [] => 0
  | c :: r => c.2.cost + coCost r
def coBrief (l : List Co) : Prop := ∀ i (h : i < l.length), l[i].1.size ≤ 60 ∧ l[i].2.len ≤ 8 ∧ l[i].2.brief ∧ l[i].2.tall ≤ 31
def daCost : List Da → Nat
  | [] => 0
  | d :: r => 1 + d.2.1.length + d.2.2.length + coCost d.2.2 + daCost r
def daBrief (l : List Da) : Prop := ∀ i (h : i < l.length), l[i].1.size ≤ 60 ∧ txBrief l[i].2.1 ∧ coBrief l[i].2.2
def deCost : List De → Nat
  | [] => 0
  | d :: r => d.2.1.length + d.2.2.cost + deCost r
def deBrief (l : List De) : Prop := ∀ i (h : i < l.length), l[i].1.size ≤ 60 ∧ txBrief l[i].2.1 ∧ l[i].2.2.brief ∧ l[i].2.2.tall ≤ 31
/-- What Small lets through. -/
structure SmallP (ds : List Da) (fs : List De) (most : Nat) : Prop where
  datas : ds.length ≤ 8
  defs : fs.length ≤ 12
  cost : daCost ds + deCost fs ≤ most
  brief : daBrief ds
  briefs : deBrief fs

theorem ty_len_cost : ∀ f : Ty, f.len ≤ f.cost
  | .nil => Nat.le_refl _
  | .node _ _ r => by have := ty_len_cost r; simp only [Ty.len, Ty.cost]; omega
theorem ex_len_cost : ∀ f : Ex, f.len ≤ f.cost
  | .nil => Nat.le_refl _
  | .expr _ _ _ _ _ _ r => by have := ex_len_cost r; simp only [Ex.len, Ex.cost]; omega
  | .alt _ _ _ _ _ r => by have := ex_len_cost r; simp only [Ex.len, Ex.cost]; omega

/-- The i-th of a list, and what is behind it. -/
theorem coCost_drop {l : List Co} {i : Nat} (h : i < l.length) : coCost (l.drop i) = l[i].2.cost + coCost (l.drop (i + 1)) := by
  rw [List.drop_eq_getElem_cons h]; rfl
theorem daCost_drop {l : List Da} {i : Nat} (h : i < l.length) : daCost (l.drop i) = 1 + l[i].2.1.length + l[i].2.2.length + coCost l[i].2.2 + daCost (l.drop (i + 1)) := by
  rw [List.drop_eq_getElem_cons h]; rfl
theorem deCost_drop {l : List De} {i : Nat} (h : i < l.length) : deCost (l.drop i) = l[i].2.1.length + l[i].2.2.cost + deCost (l.drop (i + 1)) := by
  rw [List.drop_eq_getElem_cons h]; rfl
end Go.Proofs.YtledjcplbldokaaGreatDoor
