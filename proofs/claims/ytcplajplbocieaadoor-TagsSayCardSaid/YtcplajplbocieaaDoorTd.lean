/- Tags: what their texts tell. Conditions: tags that may be. -/
import Derived.Test.YtcplajplbocieaaDoorTg5
import Derived.Test.YtcplajplbocieaaDoorTg6
import Derived.Test.YtcplajplbocieaaDoorDec
namespace Go.Proofs.YtcplajplbocieaaDoor
open Go.RowKit Go.Sort Go.Lib

theorem valid_kind (x : Tg) (h : validT x = true) : 1 ≤ x.k ∧ x.k ≤ 6 := by
  unfold validT at h
  by_cases h1 : x.k = 1; · omega
  by_cases h2 : x.k = 2; · omega
  by_cases h3 : x.k = 3; · omega
  by_cases h4 : x.k = 4; · omega
  by_cases h5 : x.k = 5; · omega
  by_cases h6 : x.k = 6; · omega
  rw [if_neg h1, if_neg h2, if_neg h3, if_neg h4, if_neg (by omega)] at h
  cases h
def letB (k : Int) : UInt8 := if k = 1 then 67 else if k = 2 then 70 else if k = 3 then 80 else if k = 4 then 65 else if k = 5 then 73 else 68
theorem letT_eq (k : Int) (h : 1 ≤ k ∧ k ≤ 6) : letT k = ⟨#[letB k]⟩ := by
  have : k = 1 ∨ k = 2 ∨ k = 3 ∨ k = 4 ∨ k = 5 ∨ k = 6 := by omega
  rcases this with rfl | rfl | rfl | rfl | rfl | rfl <;> rfl
theorem letB_inj (k m : Int) (h : 1 ≤ k ∧ k ≤ 6) (g : 1 ≤ m ∧ m ≤ 6) (e : letB k = letB m) : k = m := by
  have h' : k = 1 ∨ k = 2 ∨ k = 3 ∨ k = 4 ∨ k = 5 ∨ k = 6 := by omega
  have g' : m = 1 ∨ m = 2 ∨ m = 3 ∨ m = 4 ∨ m = 5 ∨ m = 6 := by omega
  rcases h' with rfl | rfl | rfl | rfl | rfl | rfl <;> rcases g' with rfl | rfl | rfl | rfl | rfl | rfl <;> first | rfl | (exfalso; revert e; decide)
theorem text_list (x : Tg) (h : 1 ≤ x.k ∧ x.k ≤ 6) : (textT x).data.toList = letB x.k :: (x.s.data.toList ++ (47 :: Lib.itoa x.n)) := by
  unfold textT
  rw [if_pos h, letT_eq x.k h]
  simp [ByteArray.data_append]
theorem text_tells (x y : Tg) (h : validT x = true) (g : validT y = true) (e : textT x = textT y) : x.k = y.k ∧ (x.s = y.s → x = y) := by
  have hx := valid_kind x h
  have hy := valid_kind y g
  have e1 := congrArg (fun b : ByteArray => b.data.toList) e
  simp only [text_list x hx, text_list y hy, List.cons.injEq] at e1
  have hk := letB_inj _ _ hx hy e1.1
  refine ⟨hk, fun hs => ?_⟩
  rw [hs] at e1
  have e2 := List.append_cancel_left e1.2
  have e3 := itoa_inj (List.cons.inj e2).2
  obtain ⟨a, b, c⟩ := x
  obtain ⟨d, f, i⟩ := y
  simp only at hk hs e3
  rw [hk, hs, e3]
end Go.Proofs.YtcplajplbocieaaDoor
