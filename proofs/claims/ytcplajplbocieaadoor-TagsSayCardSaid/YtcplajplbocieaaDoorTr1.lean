/- Tags: the document's own calls of tags alone: contracts. Conditions: as each says. -/
import Derived.Test.YtcplajplbocieaaDoorTg5
import Derived.Test.YtcplajplbocieaaDoorTg6
import Derived.Test.YtcplajplbocieaaDoorTs
import Derived.Test.YtcplajplbocieaaDoorTq
import Derived.Test.YtcplajplbocieaaDoorTd
import Derived.Deep.LoopGhost
namespace Go.Proofs.YtcplajplbocieaaDoor
open Go.RowKit Go.Sort Go.Lib

theorem less_bytes : ∀ a b : List UInt8, Op.bytesLess a b = decide (Lib.compareBytes a b < 0)
  | [], [] => rfl
  | [], _ :: _ => rfl
  | _ :: _, [] => rfl
  | a :: l, b :: m => by
    rw [cb_cons]
    unfold Op.bytesLess
    by_cases h1 : a.toNat < b.toNat
    · have h1' : a < b := (u8_lt a b).2 h1
      rw [if_pos h1]; simp [h1']
    · have h1' : ¬ a < b := fun h => h1 ((u8_lt a b).1 h)
      rw [if_neg h1]
      by_cases h2 : b.toNat < a.toNat
      · have h2' : ¬ a = b := fun e => by rw [e] at h2; omega
        rw [if_pos h2]
        simp [h1', h2']
      · have h2' : a = b := u8_eq a b (by omega)
        rw [if_neg h2, less_bytes l m]
        simp [h1', h2']
set_option maxRecDepth 100000 in
theorem lessTag_any (x y : Tg) (w : World) : Calls Tryd.prog 11 #[.agg (encT x).toArray, .agg (encT y).toArray] w (Grew (.bool (ltT x y)) w) := by
  obtain ⟨xk, xs, xn⟩ := x
  obtain ⟨yk, ys, yn⟩ := y
  have e : ltT ⟨xk, xs, xn⟩ ⟨yk, ys, yn⟩ = if xk = yk then (if xs.toList = ys.toList then decide (xn < yn) else Op.bytesLess xs.toList ys.toList) else decide (xk < yk) := by
    show decide (orI (Lib.compareInt xk yk) (orI (Lib.compareBytes xs.data.toList ys.data.toList) (Lib.compareInt xn yn)) < 0) = _
    have ci : ∀ a b : Int, (Lib.compareInt a b < 0) = (a < b) := fun a b => by
      unfold Lib.compareInt
      by_cases h : a < b
      · simp [h]
      · by_cases h2 : b < a <;> simp [h, h2]
    have cz : ∀ a b : Int, (Lib.compareInt a b = 0) = (a = b) := fun a b => by
      unfold Lib.compareInt
      by_cases h : a < b
      · simp [h]; omega
      · by_cases h2 : b < a
        · simp [h, h2]; omega
        · simp [h, h2]; omega
    rw [less_bytes, ByteArray.toList_eq, ByteArray.toList_eq]
    unfold orI
    by_cases h1 : xk = yk
    · rw [if_pos ((cz xk yk).mpr h1), if_pos h1]
      by_cases h2 : xs.data.toList = ys.data.toList
      · rw [if_pos h2, if_pos (by rw [h2]; exact cmp_bytes.refl _)]
        simp only [ci]
      · rw [if_neg h2, if_neg (fun h => h2 (cmp_bytes.same _ _ h))]
    · rw [if_neg (fun h => h1 ((cz xk yk).mp h)), if_neg h1]
      simp only [ci]
  rw [e]
  simp only [encT]
  have hb := ((Below.refl _ w).alloc (Nat.le_refl _) (.cells #[.int .i64 xk, .string xs, .int .i64 xn] 23)).alloc (by simp) (.cells #[.int .i64 yk, .string ys, .int .i64 yn] 23)
  have HB := Lib.hid hb
  clear hb e
  by_cases h1 : xk = yk
  · rw [if_pos h1]
    subst h1
    by_cases h2 : xs.toList = ys.toList
    · rw [if_pos h2]
      have g2 : (xs.toList == ys.toList) = true := beq_iff_eq.2 h2
      have g3 : (xs.toList != ys.toList) = false := by rw [bne, g2]; rfl
      clear h2
      go_enter Tryd.func11, Tryd.ntmps11
      go_wp2_with fail
      go_ret
      exact ⟨rfl, HB.out⟩
    · rw [if_neg h2]
      have g2 : (xs.toList == ys.toList) = false := beq_eq_false_iff_ne.2 h2
      have g3 : (xs.toList != ys.toList) = true := by rw [bne, g2]; rfl
      go_enter Tryd.func11, Tryd.ntmps11
      go_wp2_with fail
      go_ret
      exact ⟨rfl, HB.out⟩
  · rw [if_neg h1]
    have g2 : (xk == yk) = false := beq_eq_false_iff_ne.2 h1
    have g3 : (xk != yk) = true := by rw [bne, g2]; rfl
    clear h1
    go_enter Tryd.func11, Tryd.ntmps11
    go_wp2_with fail
    go_ret
    exact ⟨rfl, HB.out⟩
set_option maxRecDepth 100000 in
theorem refWaits_any (x : Tg) (w : World) : Calls Tryd.prog 18 #[.agg (encT x).toArray] w (Grew (.bool (x.k == 2 || x.k == 4)) w) := by
  obtain ⟨xk, xs, xn⟩ := x
  simp only [encT]
  cases h2 : (xk == 2) <;> cases h4 : (xk == 4)
  all_goals
    go_enter Tryd.func18, Tryd.ntmps18
    go_wp2_with fail
    go_ret
    exact ⟨rfl, (Below.refl _ w).alloc (Nat.le_refl _) _⟩
set_option maxRecDepth 100000 in
theorem refBare_any (x : Tg) (w : World) : Calls Tryd.prog 20 #[.agg (encT x).toArray] w (Grew (.bool (x.k == 5 || x.k == 6)) w) := by
  obtain ⟨xk, xs, xn⟩ := x
  simp only [encT]
  cases h2 : (xk == 5) <;> cases h4 : (xk == 6)
  all_goals
    go_enter Tryd.func20, Tryd.ntmps20
    go_wp2_with fail
    go_ret
    exact ⟨rfl, (Below.refl _ w).alloc (Nat.le_refl _) _⟩
end Go.Proofs.YtcplajplbocieaaDoor
